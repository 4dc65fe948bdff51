import Derived.Test.YtidnifmehnjipaaGreatJaj
import Derived.Lib.SlBytesConst
set_option maxRecDepth 100000
set_option maxHeartbeats 8000000
namespace Go.Proofs.YtidnifmehnjipaaGreat
section
namespace Rc
open Go.RowKit Go.Lib Pg
attribute [local go_sem] Oper.semAt_some
section
variable {w w0:World}{B g b vb rb o k:Nat}{kd:Nat->Nat}{cs:List Value}{xs:Nat->Int}{l1 l:List Int}{v old:Value}{err:Int}
abbrev RSt:=Int × List Int × (Nat->Int)
def dc(l:List Int):Int ⊕ Int × Nat:=match aX l with
 | .inl e=>.inl e
 | .inr p=>.inr ((if p.1 then 1 else 0),p.2)
def p1:Nat->List Int->Int ⊕ Int × Nat
 | 0,l=>bN 8 l
 | 1,l=>dc l
 | _,l=>aY l
theorem gX(l:List Int)(err:Int):rdE (dc l) err=rdE (aX l) err:=by
 unfold rdE dc
 cases aX l<;>rfl
theorem gL(l m:List Int)(err:Int):rdL (dc l) err m=rdL (aX l) err m:=by
 unfold rdL dc
 cases aX l<;>rfl
theorem gH(l:List Int)(err:Int):rdV 0 (dc l) err=if rdV false (aX l) err then 1 else 0:=by
 unfold rdV dc;by_cases h:err=0
 ·rw[if_pos h,if_pos h]
  cases aX l<;>rfl
 ·rw[if_neg h,if_neg h];rfl
def rnx(k o:Nat)(s:RSt):RSt:=(rdE (p1 k s.2.1) s.1,rdL (p1 k s.2.1) s.1 s.2.1,fun i=>if i=o then rdV 0 (p1 k s.2.1) s.1 else s.2.2 i)
def lE(w:World)(B:Nat)(kd:Nat->Nat)(cs:List Value)(xs:Nat->Int):Prop:=∀ o,(kd o=0->cs[o]?=some (.int .u64 (xs o)))/\(kd o=1->∃ b:Bool,cs[o]?=some (.bool b)/\xs o=if b then 1 else 0)/\(kd o=2->∃ ao n c,cs[o]?=some (.slice ao n c)/\dg w B ao n c (xs o)/\n<=255)
theorem lE.off{w':World}(h:lE w B kd cs xs)(e:w.heap.size<=w'.heap.size)(hw:∀ b,B<=b->b < w.heap.size->w'.heap[b]? = w.heap[b]?):lE w' B kd cs xs:=fun o=>⟨(h o).1,(h o).2.1,fun f=>by
 obtain⟨g,n,c,i,a,d⟩:=(h o).2.2 f
 exact⟨g,n,c,i,a.off e hw,d⟩⟩
structure RI(w0:World)(B g b vb rb:Nat)(kd:Nat->Nat)(len:Nat)(T vt:TypeId)(s:RSt)(w:World):Prop where
 rd:RdA w g b s.1 s.2.1
 var:Blk w vb [.pointer (some ⟨g,0,none⟩)] vt
 rc:∃ cs,cs.length=len/\Blk w rb cs T/\lE w B kd cs s.2.2
 bel:Below w0.heap.size w0 w
 s1:rb≠g
 s2:vb≠g
 s3:vb≠rb
 s4:b≠rb
 g1:g < B
 r1:rb < B
 g0:w0.heap.size<=g
 r0:w0.heap.size<=rb
theorem ie(w:World)(g o:Nat)(v:Value):But g w (w.setCell ⟨g,o,none⟩ v):=by
 have h:=(Chg.refl (fun x=>x=g) w).cell (g:=g) (i:=o) (.inl rfl) v;exact⟨h.os,h.tape,h.output,h.size,fun b hb a=>h.same b hb a⟩
theorem RI.step{w1:World}{len:Nat}{T vt:TypeId}{s:RSt}{e1:Int}{x:Int}(h:RI w0 B g b vb rb kd len T vt s w)(F:kd o=k)(G:o < len)(X:RdA w1 g b e1 l1)(p:But g w w1)(r:(k=0/\v=.int .u64 x)\/(k=1/\∃ t:Bool,v=.bool t/\x=if t then 1 else 0)\/(k=2/\∃ ao n c,v=.slice ao n c/\dg w1 B ao n c x/\n<=255)) :
  RI w0 B g b vb rb kd len T vt (e1,l1,fun i=>if i=o then x else s.2.2 i) (w1.setCell ⟨rb,o,none⟩ v)/\Chg (fun y=>y=g\/y=rb) w (w1.setCell ⟨rb,o,none⟩ v):=by
 have hS:=ie w1 rb o v;have C:=h.s1;have H:=h.g1;have E:=h.r1
 have j:Chg (·=g) w w1:=But.chg p
 have m:Chg (·=rb) w1 (w1.setCell ⟨rb,o,none⟩ v):=But.chg hS;obtain⟨cs,z,u,hF⟩:=h.rc
 have D:Below w0.heap.size w0 w1:=p.below h.bel h.g0 (Nat.le_refl _)
 have l:∀ y,B<=y->y < w.heap.size->w1.heap[y]?=w.heap[y]?:=fun y hy f=>p.block y f (by omega)
 have d:∀ y,B<=y->y < w1.heap.size->(w1.setCell ⟨rb,o,none⟩ v).heap[y]?=w1.heap[y]?:=fun y hy f=>hS.block y f (by omega)
 refine⟨⟨X.offW (fun e=>C e.symm) h.s4 hS,(h.var.chg j h.s2).chg m h.s3,⟨cs.set o v,by rw[List.length_set];exact z,(u.chg j C).setCell (i:=o) v,?_⟩,hS.below D h.r0 (Nat.le_refl _),h.s1,h.s2,h.s3,h.s4,h.g1,h.r1,h.g0,h.r0⟩,(j.mono (fun _ _ e=>.inl e)).trans m (fun _ _ e=>.inr e)⟩;have q:=hF.off p.size l;intro i;by_cases hi:i=o
 ·subst hi
  have a:(cs.set i v)[i]?=some v:=by rw[List.getElem?_set_self (by omega)]
  rw[a];simp only[if_true];refine⟨fun A=>?_,fun A=>?_,fun A=>?_⟩
  ·rcases r with⟨_,e⟩ | ⟨e,_⟩ | ⟨e,_⟩
   ·rw[e]
   ·omega
   ·omega
  ·rcases r with⟨e,_⟩ | ⟨_,t,e,e2⟩ | ⟨e,_⟩
   ·omega
   ·exact⟨t,by rw[e],e2⟩
   ·omega
  ·rcases r with⟨e,_⟩ | ⟨e,_⟩ | ⟨_,ao,n,c,e,e2,e3⟩
   ·omega
   ·omega
   ·exact⟨ao,n,c,by rw[e],e2.off hS.size d,e3⟩
 ·have a:(cs.set o v)[i]? = cs[i]? := by rw[List.getElem?_set_ne (fun e=>hi e.symm)]
  simp only[if_neg hi];rw[a];exact(q.off hS.size d) i
theorem Ce{T vt:TypeId}(X:RdA w g b err l)(V:Blk w vb [.pointer (some ⟨g,0,none⟩)] vt)(R:Blk w rb cs T)(m:rb≠g)(j:cs[o]?=some old)(hold:∃ y,old=.int .u64 y) :
  Calls Tryz.prog 228 #[.pointer (some ⟨rb,o,none⟩),.pointer (some ⟨vb,0,none⟩)] w fun e w'=>e=.returned (.tuple #[])/\∃ w1,w'=w1.setCell ⟨rb,o,none⟩ (.int .u64 (rdV 0 (p1 0 l) err))/\RdA w1 g b (rdE (p1 0 l) err) (rdL (p1 0 l) err l)/\But g w w1:=by
 obtain⟨y,rfl⟩:=hold;have t:=vI X
 show Calls Tryz.prog _ _ w fun e w'=>e=.returned (.tuple #[])/\∃ w1,w'=w1.setCell ⟨rb,o,none⟩ (.int .u64 (rdV 0 (bN 8 l) err))/\RdA w1 g b (rdE (bN 8 l) err) (rdL (bN 8 l) err l)/\But g w w1
 generalize rdV 0 (bN 8 l) err=Y at *;generalize rdE (bN 8 l) err=E at *;generalize rdL (bN 8 l) err l=x at *;have r:=V.cell (i:=0) rfl;have p:=ah R;have c:=ah m;have q:=ah j;clear X V R j m;go_enter Tryz.func228,Tryz.ntmps228;go_wp2_with (go_at_call 164;refine t.mono ?_;rintro s w1 ⟨rfl,f,n⟩;clear t;have d:=p.out.chg (But.chg n) c.out;have u:=d.cell q.out;have v:=d.free o;clear d;replace f:=ah f);go_end0;exact⟨rfl,w1,rfl,f.out,n⟩
theorem Bp{T vt:TypeId}(X:RdA w g b err l)(V:Blk w vb [.pointer (some ⟨g,0,none⟩)] vt)(R:Blk w rb cs T)(n:rb≠g)(j:cs[o]?=some old)(hold:∃ y,old=.bool y) :
  Calls Tryz.prog 229 #[.pointer (some ⟨rb,o,none⟩),.pointer (some ⟨vb,0,none⟩)] w fun e w'=>e=.returned (.tuple #[])/\∃ w1,w'=w1.setCell ⟨rb,o,none⟩ (.bool (rdV false (aX l) err))/\RdA w1 g b (rdE (p1 1 l) err) (rdL (p1 1 l) err l)/\But g w w1:=by
 obtain⟨y,rfl⟩:=hold;have t:=rdBool X
 show Calls Tryz.prog _ _ w fun e w'=>e=.returned (.tuple #[])/\∃ w1,w'=w1.setCell ⟨rb,o,none⟩ (.bool (rdV false (aX l) err))/\RdA w1 g b (rdE (dc l) err) (rdL (dc l) err l)/\But g w w1
 rw[gX,gL];generalize rdV false (aX l) err=Y at *;generalize rdE (aX l) err=E at *;generalize rdL (aX l) err l=r at *;have s:=V.cell (i:=0) rfl;have p:=ah R;have c:=ah n;have q:=ah j;clear X V R j n;go_enter Tryz.func229,Tryz.ntmps229;go_wp2_with (go_at_call 166;refine t.mono ?_;rintro u w1 ⟨rfl,f,m⟩;clear t;have d:=p.out.chg (But.chg m) c.out;have v:=d.cell q.out;have x:=d.free o;clear d;replace f:=ah f);go_end0;exact⟨rfl,w1,rfl,f.out,m⟩
theorem y9{T vt:TypeId}(X:RdA w g b err l)(V:Blk w vb [.pointer (some ⟨g,0,none⟩)] vt)(R:Blk w rb cs T)(r:rb≠g)(p:cs[o]?=some old)(hold:∃ a n c,old=.slice a n c) :
  Calls Tryz.prog 230 #[.pointer (some ⟨rb,o,none⟩),.pointer (some ⟨vb,0,none⟩)] w fun e w'=>e=.returned (.tuple #[])/\∃ w1 ao n c,w'=w1.setCell ⟨rb,o,none⟩ (.slice ao n c)/\dg w1 w.heap.size ao n c (rdV 0 (p1 2 l) err)/\n<=255/\RdA w1 g b (rdE (p1 2 l) err) (rdL (p1 2 l) err l)/\But g w w1:=by
 obtain⟨G,on,z,rfl⟩:=hold;have t:=ri X
 show Calls Tryz.prog _ _ w fun e w'=>e=.returned (.tuple #[])/\∃ w1 ao n c,w'=w1.setCell ⟨rb,o,none⟩ (.slice ao n c)/\dg w1 w.heap.size ao n c (rdV 0 (aY l) err)/\n<=255/\RdA w1 g b (rdE (aY l) err) (rdL (aY l) err l)/\But g w w1
 generalize rdV 0 (aY l) err=Y at *;generalize rdE (aY l) err=E at *;generalize rdL (aY l) err l=A at *;have B:=V.cell (i:=0) rfl;have u:=ah R;have f:=ah r;have v:=ah p;clear X V R p r;go_enter Tryz.func230,Tryz.ntmps230;go_wp2_with (go_at_call 168;refine t.mono ?_;rintro C w1 ⟨x,y,d1,rfl,s,d,m,q⟩;clear t;have j:=u.out.chg (But.chg q) f.out;have D:=j.cell v.out;have F:=j.free o;clear j;replace m:=ah m);go_end0;exact⟨rfl,w1,x,y,d1,rfl,s,d,m.out,q⟩
theorem nh(h:bL o=k)(hk:k≠9):o < 2:=by
 by_cases ho:o < 2
 ·exact ho
 ·exfalso;have:bL o=9:=by
   unfold bL;rw[List.getD_eq_getElem?_getD,List.getElem?_eq_none (by simp;omega)];rfl
  omega
theorem yE{T vt:TypeId}:HC RSt (fun s w=>RI w0 B g b vb rb bL 2 T vt s w/\B<=w.heap.size) (fun y=>y=g\/y=rb) rb 228 229 230 (.pointer (some ⟨vb,0,none⟩)) rnx bL (fun _=>True) where
 oks:=fun _ _ _ _=>trivial
 keep:=fun s w q h k=>by
  obtain⟨h,i⟩:=h;obtain⟨cs,p,j,l⟩:=h.rc;exact⟨⟨h.rd.keep k,h.var.keep k,⟨cs,p,j.keep k,l.off k.size (fun y _ hy=>k.block y hy)⟩,h.bel.trans (k.mono h.bel.size),h.s1,h.s2,h.s3,h.s4,h.g1,h.r1,h.g0,h.r0⟩,Nat.le_trans i k.size⟩
 old:=fun s w y h e=>by
  have:=h.1.g1;have:=h.1.r1;have:=h.2;rcases e with e | e<;>omega
 e1:=fun _ _=>by kernel_rfl
 e2:=fun _ _=>by kernel_rfl
 e3:=fun _ _=>by kernel_rfl
 u:=fun s w o h _ a=>by
  obtain⟨h,i⟩:=h;obtain⟨cs,p,j,l⟩:=h.rc;refine(Ce h.rd h.var j h.s1 ((l o).1 a) ⟨_,rfl⟩).mono ?_
  rintro e q ⟨rfl,v,rfl,X,m⟩;obtain⟨r1,f⟩:=h.step a (nh a (by decide)) X m (.inl ⟨rfl,rfl⟩);exact⟨rfl,⟨r1,Nat.le_trans i f.size⟩,f⟩
 t:=fun s w o h _ a=>by
  obtain⟨h,i⟩:=h;obtain⟨cs,p,j,l⟩:=h.rc;obtain⟨t,r,_⟩:=(l o).2.1 a;refine(Bp h.rd h.var j h.s1 r ⟨_,rfl⟩).mono ?_
  rintro e q ⟨rfl,v,rfl,X,m⟩;obtain⟨r1,f⟩:=h.step a (nh a (by decide)) X m (x:=rdV 0 (p1 1 s.2.1) s.1) (.inr (.inl ⟨rfl,_,rfl,gH _ _⟩));exact⟨rfl,⟨r1,Nat.le_trans i f.size⟩,f⟩
 d:=fun s w o h _ a=>by
  obtain⟨h,i⟩:=h;obtain⟨cs,p,j,l⟩:=h.rc;obtain⟨A,n,c,r,_⟩:=(l o).2.2 a;refine(y9 h.rd h.var j h.s1 r ⟨_,_,_,rfl⟩).mono ?_
  rintro e q ⟨rfl,v,C,D,c1,rfl,z,hn,X,m⟩;obtain⟨r1,f⟩:=h.step a (nh a (by decide)) X m (x:=rdV 0 (p1 2 s.2.1) s.1) (.inr (.inr ⟨rfl,_,_,_,rfl,z.low i,hn⟩));exact⟨rfl,⟨r1,Nat.le_trans i f.size⟩,f⟩
theorem kl_Pool(h:fx o=k)(hk:k≠9):o < 1:=by
 by_cases ho:o < 1
 ·exact ho
 ·exfalso;have:fx o=9:=by
   unfold fx;rw[List.getD_eq_getElem?_getD,List.getElem?_eq_none (by simp;omega)];rfl
  omega
theorem pW{T vt:TypeId}(X:RdA w g b err l)(V:Blk w vb [.pointer (some ⟨g,0,none⟩)] vt)(R:Blk w rb cs T)(m:rb≠g)(j:cs[o]?=some old)(hold:∃ y,old=.int .u64 y) :
  Calls Tryz.prog 193 #[.pointer (some ⟨rb,o,none⟩),.pointer (some ⟨vb,0,none⟩)] w fun e w'=>e=.returned (.tuple #[])/\∃ w1,w'=w1.setCell ⟨rb,o,none⟩ (.int .u64 (rdV 0 (p1 0 l) err))/\RdA w1 g b (rdE (p1 0 l) err) (rdL (p1 0 l) err l)/\But g w w1:=by
 obtain⟨y,rfl⟩:=hold;have t:=vI X
 show Calls Tryz.prog _ _ w fun e w'=>e=.returned (.tuple #[])/\∃ w1,w'=w1.setCell ⟨rb,o,none⟩ (.int .u64 (rdV 0 (bN 8 l) err))/\RdA w1 g b (rdE (bN 8 l) err) (rdL (bN 8 l) err l)/\But g w w1
 generalize rdV 0 (bN 8 l) err=Y at *;generalize rdE (bN 8 l) err=E at *;generalize rdL (bN 8 l) err l=x at *;have r:=V.cell (i:=0) rfl;have p:=ah R;have c:=ah m;have q:=ah j;clear X V R j m;go_enter Tryz.func193,Tryz.ntmps193;go_wp2_with (go_at_call 164;refine t.mono ?_;rintro s w1 ⟨rfl,f,n⟩;clear t;have d:=p.out.chg (But.chg n) c.out;have u:=d.cell q.out;have v:=d.free o;clear d;replace f:=ah f);go_end0;exact⟨rfl,w1,rfl,f.out,n⟩
theorem qB{T vt:TypeId}(X:RdA w g b err l)(V:Blk w vb [.pointer (some ⟨g,0,none⟩)] vt)(R:Blk w rb cs T)(n:rb≠g)(j:cs[o]?=some old)(hold:∃ y,old=.bool y) :
  Calls Tryz.prog 194 #[.pointer (some ⟨rb,o,none⟩),.pointer (some ⟨vb,0,none⟩)] w fun e w'=>e=.returned (.tuple #[])/\∃ w1,w'=w1.setCell ⟨rb,o,none⟩ (.bool (rdV false (aX l) err))/\RdA w1 g b (rdE (p1 1 l) err) (rdL (p1 1 l) err l)/\But g w w1:=by
 obtain⟨y,rfl⟩:=hold;have t:=rdBool X
 show Calls Tryz.prog _ _ w fun e w'=>e=.returned (.tuple #[])/\∃ w1,w'=w1.setCell ⟨rb,o,none⟩ (.bool (rdV false (aX l) err))/\RdA w1 g b (rdE (dc l) err) (rdL (dc l) err l)/\But g w w1
 rw[gX,gL];generalize rdV false (aX l) err=Y at *;generalize rdE (aX l) err=E at *;generalize rdL (aX l) err l=r at *;have s:=V.cell (i:=0) rfl;have p:=ah R;have c:=ah n;have q:=ah j;clear X V R j n;go_enter Tryz.func194,Tryz.ntmps194;go_wp2_with (go_at_call 166;refine t.mono ?_;rintro u w1 ⟨rfl,f,m⟩;clear t;have d:=p.out.chg (But.chg m) c.out;have v:=d.cell q.out;have x:=d.free o;clear d;replace f:=ah f);go_end0;exact⟨rfl,w1,rfl,f.out,m⟩
theorem pM{T vt:TypeId}(X:RdA w g b err l)(V:Blk w vb [.pointer (some ⟨g,0,none⟩)] vt)(R:Blk w rb cs T)(r:rb≠g)(p:cs[o]?=some old)(hold:∃ a n c,old=.slice a n c) :
  Calls Tryz.prog 195 #[.pointer (some ⟨rb,o,none⟩),.pointer (some ⟨vb,0,none⟩)] w fun e w'=>e=.returned (.tuple #[])/\∃ w1 ao n c,w'=w1.setCell ⟨rb,o,none⟩ (.slice ao n c)/\dg w1 w.heap.size ao n c (rdV 0 (p1 2 l) err)/\n<=255/\RdA w1 g b (rdE (p1 2 l) err) (rdL (p1 2 l) err l)/\But g w w1:=by
 obtain⟨G,on,z,rfl⟩:=hold;have t:=ri X
 show Calls Tryz.prog _ _ w fun e w'=>e=.returned (.tuple #[])/\∃ w1 ao n c,w'=w1.setCell ⟨rb,o,none⟩ (.slice ao n c)/\dg w1 w.heap.size ao n c (rdV 0 (aY l) err)/\n<=255/\RdA w1 g b (rdE (aY l) err) (rdL (aY l) err l)/\But g w w1
 generalize rdV 0 (aY l) err=Y at *;generalize rdE (aY l) err=E at *;generalize rdL (aY l) err l=A at *;have B:=V.cell (i:=0) rfl;have u:=ah R;have f:=ah r;have v:=ah p;clear X V R p r;go_enter Tryz.func195,Tryz.ntmps195;go_wp2_with (go_at_call 168;refine t.mono ?_;rintro C w1 ⟨x,y,d1,rfl,s,d,m,q⟩;clear t;have j:=u.out.chg (But.chg q) f.out;have D:=j.cell v.out;have F:=j.free o;clear j;replace m:=ah m);go_end0;exact⟨rfl,w1,x,y,d1,rfl,s,d,m.out,q⟩
theorem fY(h:aM o=k)(hk:k≠9):o < 6:=by
 by_cases ho:o < 6
 ·exact ho
 ·exfalso;have:aM o=9:=by
   unfold aM;rw[List.getD_eq_getElem?_getD,List.getElem?_eq_none (by simp;omega)];rfl
  omega
theorem nY{T vt:TypeId}:HC RSt (fun s w=>RI w0 B g b vb rb aM 6 T vt s w/\B<=w.heap.size) (fun y=>y=g\/y=rb) rb 193 194 195 (.pointer (some ⟨vb,0,none⟩)) rnx aM (fun _=>True) where
 oks:=fun _ _ _ _=>trivial
 keep:=fun s w q h k=>by
  obtain⟨h,i⟩:=h;obtain⟨cs,p,j,l⟩:=h.rc;exact⟨⟨h.rd.keep k,h.var.keep k,⟨cs,p,j.keep k,l.off k.size (fun y _ hy=>k.block y hy)⟩,h.bel.trans (k.mono h.bel.size),h.s1,h.s2,h.s3,h.s4,h.g1,h.r1,h.g0,h.r0⟩,Nat.le_trans i k.size⟩
 old:=fun s w y h e=>by
  have:=h.1.g1;have:=h.1.r1;have:=h.2;rcases e with e | e<;>omega
 e1:=fun _ _=>by kernel_rfl
 e2:=fun _ _=>by kernel_rfl
 e3:=fun _ _=>by kernel_rfl
 u:=fun s w o h _ a=>by
  obtain⟨h,i⟩:=h;obtain⟨cs,p,j,l⟩:=h.rc;refine(pW h.rd h.var j h.s1 ((l o).1 a) ⟨_,rfl⟩).mono ?_
  rintro e q ⟨rfl,v,rfl,X,m⟩;obtain⟨r1,f⟩:=h.step a (fY a (by decide)) X m (.inl ⟨rfl,rfl⟩);exact⟨rfl,⟨r1,Nat.le_trans i f.size⟩,f⟩
 t:=fun s w o h _ a=>by
  obtain⟨h,i⟩:=h;obtain⟨cs,p,j,l⟩:=h.rc;obtain⟨t,r,_⟩:=(l o).2.1 a;refine(qB h.rd h.var j h.s1 r ⟨_,rfl⟩).mono ?_
  rintro e q ⟨rfl,v,rfl,X,m⟩;obtain⟨r1,f⟩:=h.step a (fY a (by decide)) X m (x:=rdV 0 (p1 1 s.2.1) s.1) (.inr (.inl ⟨rfl,_,rfl,gH _ _⟩));exact⟨rfl,⟨r1,Nat.le_trans i f.size⟩,f⟩
 d:=fun s w o h _ a=>by
  obtain⟨h,i⟩:=h;obtain⟨cs,p,j,l⟩:=h.rc;obtain⟨A,n,c,r,_⟩:=(l o).2.2 a;refine(pM h.rd h.var j h.s1 r ⟨_,_,_,rfl⟩).mono ?_
  rintro e q ⟨rfl,v,C,D,c1,rfl,z,hn,X,m⟩;obtain⟨r1,f⟩:=h.step a (fY a (by decide)) X m (x:=rdV 0 (p1 2 s.2.1) s.1) (.inr (.inr ⟨rfl,_,_,_,rfl,z.low i,hn⟩));exact⟨rfl,⟨r1,Nat.le_trans i f.size⟩,f⟩
theorem EP{T vt:TypeId}(X:RdA w g b err l)(V:Blk w vb [.pointer (some ⟨g,0,none⟩)] vt)(R:Blk w rb cs T)(m:rb≠g)(j:cs[o]?=some old)(hold:∃ y,old=.int .u64 y) :
  Calls Tryz.prog 202 #[.pointer (some ⟨rb,o,none⟩),.pointer (some ⟨vb,0,none⟩)] w fun e w'=>e=.returned (.tuple #[])/\∃ w1,w'=w1.setCell ⟨rb,o,none⟩ (.int .u64 (rdV 0 (p1 0 l) err))/\RdA w1 g b (rdE (p1 0 l) err) (rdL (p1 0 l) err l)/\But g w w1:=by
 obtain⟨y,rfl⟩:=hold;have t:=vI X
 show Calls Tryz.prog _ _ w fun e w'=>e=.returned (.tuple #[])/\∃ w1,w'=w1.setCell ⟨rb,o,none⟩ (.int .u64 (rdV 0 (bN 8 l) err))/\RdA w1 g b (rdE (bN 8 l) err) (rdL (bN 8 l) err l)/\But g w w1
 generalize rdV 0 (bN 8 l) err=Y at *;generalize rdE (bN 8 l) err=E at *;generalize rdL (bN 8 l) err l=x at *;have r:=V.cell (i:=0) rfl;have p:=ah R;have c:=ah m;have q:=ah j;clear X V R j m;go_enter Tryz.func202,Tryz.ntmps202;go_wp2_with (go_at_call 164;refine t.mono ?_;rintro s w1 ⟨rfl,f,n⟩;clear t;have d:=p.out.chg (But.chg n) c.out;have u:=d.cell q.out;have v:=d.free o;clear d;replace f:=ah f);go_end0;exact⟨rfl,w1,rfl,f.out,n⟩
theorem DV{T vt:TypeId}(X:RdA w g b err l)(V:Blk w vb [.pointer (some ⟨g,0,none⟩)] vt)(R:Blk w rb cs T)(n:rb≠g)(j:cs[o]?=some old)(hold:∃ y,old=.bool y) :
  Calls Tryz.prog 203 #[.pointer (some ⟨rb,o,none⟩),.pointer (some ⟨vb,0,none⟩)] w fun e w'=>e=.returned (.tuple #[])/\∃ w1,w'=w1.setCell ⟨rb,o,none⟩ (.bool (rdV false (aX l) err))/\RdA w1 g b (rdE (p1 1 l) err) (rdL (p1 1 l) err l)/\But g w w1:=by
 obtain⟨y,rfl⟩:=hold;have t:=rdBool X
 show Calls Tryz.prog _ _ w fun e w'=>e=.returned (.tuple #[])/\∃ w1,w'=w1.setCell ⟨rb,o,none⟩ (.bool (rdV false (aX l) err))/\RdA w1 g b (rdE (dc l) err) (rdL (dc l) err l)/\But g w w1
 rw[gX,gL];generalize rdV false (aX l) err=Y at *;generalize rdE (aX l) err=E at *;generalize rdL (aX l) err l=r at *;have s:=V.cell (i:=0) rfl;have p:=ah R;have c:=ah n;have q:=ah j;clear X V R j n;go_enter Tryz.func203,Tryz.ntmps203;go_wp2_with (go_at_call 166;refine t.mono ?_;rintro u w1 ⟨rfl,f,m⟩;clear t;have d:=p.out.chg (But.chg m) c.out;have v:=d.cell q.out;have x:=d.free o;clear d;replace f:=ah f);go_end0;exact⟨rfl,w1,rfl,f.out,m⟩
theorem DF{T vt:TypeId}(X:RdA w g b err l)(V:Blk w vb [.pointer (some ⟨g,0,none⟩)] vt)(R:Blk w rb cs T)(r:rb≠g)(p:cs[o]?=some old)(hold:∃ a n c,old=.slice a n c) :
  Calls Tryz.prog 204 #[.pointer (some ⟨rb,o,none⟩),.pointer (some ⟨vb,0,none⟩)] w fun e w'=>e=.returned (.tuple #[])/\∃ w1 ao n c,w'=w1.setCell ⟨rb,o,none⟩ (.slice ao n c)/\dg w1 w.heap.size ao n c (rdV 0 (p1 2 l) err)/\n<=255/\RdA w1 g b (rdE (p1 2 l) err) (rdL (p1 2 l) err l)/\But g w w1:=by
 obtain⟨G,on,z,rfl⟩:=hold;have t:=ri X
 show Calls Tryz.prog _ _ w fun e w'=>e=.returned (.tuple #[])/\∃ w1 ao n c,w'=w1.setCell ⟨rb,o,none⟩ (.slice ao n c)/\dg w1 w.heap.size ao n c (rdV 0 (aY l) err)/\n<=255/\RdA w1 g b (rdE (aY l) err) (rdL (aY l) err l)/\But g w w1
 generalize rdV 0 (aY l) err=Y at *;generalize rdE (aY l) err=E at *;generalize rdL (aY l) err l=A at *;have B:=V.cell (i:=0) rfl;have u:=ah R;have f:=ah r;have v:=ah p;clear X V R p r;go_enter Tryz.func204,Tryz.ntmps204;go_wp2_with (go_at_call 168;refine t.mono ?_;rintro C w1 ⟨x,y,d1,rfl,s,d,m,q⟩;clear t;have j:=u.out.chg (But.chg q) f.out;have D:=j.cell v.out;have F:=j.free o;clear j;replace m:=ah m);go_end0;exact⟨rfl,w1,x,y,d1,rfl,s,d,m.out,q⟩
theorem qj(h:bR o=k)(hk:k≠9):o < 7:=by
 by_cases ho:o < 7
 ·exact ho
 ·exfalso;have:bR o=9:=by
   unfold bR;rw[List.getD_eq_getElem?_getD,List.getElem?_eq_none (by simp;omega)];rfl
  omega
theorem Bd{T vt:TypeId}:HC RSt (fun s w=>RI w0 B g b vb rb bR 7 T vt s w/\B<=w.heap.size) (fun y=>y=g\/y=rb) rb 202 203 204 (.pointer (some ⟨vb,0,none⟩)) rnx bR (fun _=>True) where
 oks:=fun _ _ _ _=>trivial
 keep:=fun s w q h k=>by
  obtain⟨h,i⟩:=h;obtain⟨cs,p,j,l⟩:=h.rc;exact⟨⟨h.rd.keep k,h.var.keep k,⟨cs,p,j.keep k,l.off k.size (fun y _ hy=>k.block y hy)⟩,h.bel.trans (k.mono h.bel.size),h.s1,h.s2,h.s3,h.s4,h.g1,h.r1,h.g0,h.r0⟩,Nat.le_trans i k.size⟩
 old:=fun s w y h e=>by
  have:=h.1.g1;have:=h.1.r1;have:=h.2;rcases e with e | e<;>omega
 e1:=fun _ _=>by kernel_rfl
 e2:=fun _ _=>by kernel_rfl
 e3:=fun _ _=>by kernel_rfl
 u:=fun s w o h _ a=>by
  obtain⟨h,i⟩:=h;obtain⟨cs,p,j,l⟩:=h.rc;refine(EP h.rd h.var j h.s1 ((l o).1 a) ⟨_,rfl⟩).mono ?_
  rintro e q ⟨rfl,v,rfl,X,m⟩;obtain⟨r1,f⟩:=h.step a (qj a (by decide)) X m (.inl ⟨rfl,rfl⟩);exact⟨rfl,⟨r1,Nat.le_trans i f.size⟩,f⟩
 t:=fun s w o h _ a=>by
  obtain⟨h,i⟩:=h;obtain⟨cs,p,j,l⟩:=h.rc;obtain⟨t,r,_⟩:=(l o).2.1 a;refine(DV h.rd h.var j h.s1 r ⟨_,rfl⟩).mono ?_
  rintro e q ⟨rfl,v,rfl,X,m⟩;obtain⟨r1,f⟩:=h.step a (qj a (by decide)) X m (x:=rdV 0 (p1 1 s.2.1) s.1) (.inr (.inl ⟨rfl,_,rfl,gH _ _⟩));exact⟨rfl,⟨r1,Nat.le_trans i f.size⟩,f⟩
 d:=fun s w o h _ a=>by
  obtain⟨h,i⟩:=h;obtain⟨cs,p,j,l⟩:=h.rc;obtain⟨A,n,c,r,_⟩:=(l o).2.2 a;refine(DF h.rd h.var j h.s1 r ⟨_,_,_,rfl⟩).mono ?_
  rintro e q ⟨rfl,v,C,D,c1,rfl,z,hn,X,m⟩;obtain⟨r1,f⟩:=h.step a (qj a (by decide)) X m (x:=rdV 0 (p1 2 s.2.1) s.1) (.inr (.inr ⟨rfl,_,_,_,rfl,z.low i,hn⟩));exact⟨rfl,⟨r1,Nat.le_trans i f.size⟩,f⟩
theorem xM{T vt:TypeId}(X:RdA w g b err l)(V:Blk w vb [.pointer (some ⟨g,0,none⟩)] vt)(R:Blk w rb cs T)(m:rb≠g)(j:cs[o]?=some old)(hold:∃ y,old=.int .u64 y) :
  Calls Tryz.prog 163 #[.pointer (some ⟨rb,o,none⟩),.pointer (some ⟨vb,0,none⟩)] w fun e w'=>e=.returned (.tuple #[])/\∃ w1,w'=w1.setCell ⟨rb,o,none⟩ (.int .u64 (rdV 0 (p1 0 l) err))/\RdA w1 g b (rdE (p1 0 l) err) (rdL (p1 0 l) err l)/\But g w w1:=by
 obtain⟨y,rfl⟩:=hold;have t:=vI X
 show Calls Tryz.prog _ _ w fun e w'=>e=.returned (.tuple #[])/\∃ w1,w'=w1.setCell ⟨rb,o,none⟩ (.int .u64 (rdV 0 (bN 8 l) err))/\RdA w1 g b (rdE (bN 8 l) err) (rdL (bN 8 l) err l)/\But g w w1
 generalize rdV 0 (bN 8 l) err=Y at *;generalize rdE (bN 8 l) err=E at *;generalize rdL (bN 8 l) err l=x at *;have r:=V.cell (i:=0) rfl;have p:=ah R;have c:=ah m;have q:=ah j;clear X V R j m;go_enter Tryz.func163,Tryz.ntmps163;go_wp2_with (go_at_call 164;refine t.mono ?_;rintro s w1 ⟨rfl,f,n⟩;clear t;have d:=p.out.chg (But.chg n) c.out;have u:=d.cell q.out;have v:=d.free o;clear d;replace f:=ah f);go_end0;exact⟨rfl,w1,rfl,f.out,n⟩
theorem yi{T vt:TypeId}(X:RdA w g b err l)(V:Blk w vb [.pointer (some ⟨g,0,none⟩)] vt)(R:Blk w rb cs T)(n:rb≠g)(j:cs[o]?=some old)(hold:∃ y,old=.bool y) :
  Calls Tryz.prog 165 #[.pointer (some ⟨rb,o,none⟩),.pointer (some ⟨vb,0,none⟩)] w fun e w'=>e=.returned (.tuple #[])/\∃ w1,w'=w1.setCell ⟨rb,o,none⟩ (.bool (rdV false (aX l) err))/\RdA w1 g b (rdE (p1 1 l) err) (rdL (p1 1 l) err l)/\But g w w1:=by
 obtain⟨y,rfl⟩:=hold;have t:=rdBool X
 show Calls Tryz.prog _ _ w fun e w'=>e=.returned (.tuple #[])/\∃ w1,w'=w1.setCell ⟨rb,o,none⟩ (.bool (rdV false (aX l) err))/\RdA w1 g b (rdE (dc l) err) (rdL (dc l) err l)/\But g w w1
 rw[gX,gL];generalize rdV false (aX l) err=Y at *;generalize rdE (aX l) err=E at *;generalize rdL (aX l) err l=r at *;have s:=V.cell (i:=0) rfl;have p:=ah R;have c:=ah n;have q:=ah j;clear X V R j n;go_enter Tryz.func165,Tryz.ntmps165;go_wp2_with (go_at_call 166;refine t.mono ?_;rintro u w1 ⟨rfl,f,m⟩;clear t;have d:=p.out.chg (But.chg m) c.out;have v:=d.cell q.out;have x:=d.free o;clear d;replace f:=ah f);go_end0;exact⟨rfl,w1,rfl,f.out,m⟩
theorem wY{T vt:TypeId}(X:RdA w g b err l)(V:Blk w vb [.pointer (some ⟨g,0,none⟩)] vt)(R:Blk w rb cs T)(r:rb≠g)(p:cs[o]?=some old)(hold:∃ a n c,old=.slice a n c) :
  Calls Tryz.prog 167 #[.pointer (some ⟨rb,o,none⟩),.pointer (some ⟨vb,0,none⟩)] w fun e w'=>e=.returned (.tuple #[])/\∃ w1 ao n c,w'=w1.setCell ⟨rb,o,none⟩ (.slice ao n c)/\dg w1 w.heap.size ao n c (rdV 0 (p1 2 l) err)/\n<=255/\RdA w1 g b (rdE (p1 2 l) err) (rdL (p1 2 l) err l)/\But g w w1:=by
 obtain⟨G,on,z,rfl⟩:=hold;have t:=ri X
 show Calls Tryz.prog _ _ w fun e w'=>e=.returned (.tuple #[])/\∃ w1 ao n c,w'=w1.setCell ⟨rb,o,none⟩ (.slice ao n c)/\dg w1 w.heap.size ao n c (rdV 0 (aY l) err)/\n<=255/\RdA w1 g b (rdE (aY l) err) (rdL (aY l) err l)/\But g w w1
 generalize rdV 0 (aY l) err=Y at *;generalize rdE (aY l) err=E at *;generalize rdL (aY l) err l=A at *;have B:=V.cell (i:=0) rfl;have u:=ah R;have f:=ah r;have v:=ah p;clear X V R p r;go_enter Tryz.func167,Tryz.ntmps167;go_wp2_with (go_at_call 168;refine t.mono ?_;rintro C w1 ⟨x,y,d1,rfl,s,d,m,q⟩;clear t;have j:=u.out.chg (But.chg q) f.out;have D:=j.cell v.out;have F:=j.free o;clear j;replace m:=ah m);go_end0;exact⟨rfl,w1,x,y,d1,rfl,s,d,m.out,q⟩
theorem ke(h:bg o=k)(hk:k≠9):o < 1:=by
 by_cases ho:o < 1
 ·exact ho
 ·exfalso;have:bg o=9:=by
   unfold bg;rw[List.getD_eq_getElem?_getD,List.getElem?_eq_none (by simp;omega)];rfl
  omega
theorem uS{T vt:TypeId}:HC RSt (fun s w=>RI w0 B g b vb rb bg 1 T vt s w/\B<=w.heap.size) (fun y=>y=g\/y=rb) rb 163 165 167 (.pointer (some ⟨vb,0,none⟩)) rnx bg (fun _=>True) where
 oks:=fun _ _ _ _=>trivial
 keep:=fun s w q h k=>by
  obtain⟨h,i⟩:=h;obtain⟨cs,p,j,l⟩:=h.rc;exact⟨⟨h.rd.keep k,h.var.keep k,⟨cs,p,j.keep k,l.off k.size (fun y _ hy=>k.block y hy)⟩,h.bel.trans (k.mono h.bel.size),h.s1,h.s2,h.s3,h.s4,h.g1,h.r1,h.g0,h.r0⟩,Nat.le_trans i k.size⟩
 old:=fun s w y h e=>by
  have:=h.1.g1;have:=h.1.r1;have:=h.2;rcases e with e | e<;>omega
 e1:=fun _ _=>by kernel_rfl
 e2:=fun _ _=>by kernel_rfl
 e3:=fun _ _=>by kernel_rfl
 u:=fun s w o h _ a=>by
  obtain⟨h,i⟩:=h;obtain⟨cs,p,j,l⟩:=h.rc;refine(xM h.rd h.var j h.s1 ((l o).1 a) ⟨_,rfl⟩).mono ?_
  rintro e q ⟨rfl,v,rfl,X,m⟩;obtain⟨r1,f⟩:=h.step a (ke a (by decide)) X m (.inl ⟨rfl,rfl⟩);exact⟨rfl,⟨r1,Nat.le_trans i f.size⟩,f⟩
 t:=fun s w o h _ a=>by
  obtain⟨h,i⟩:=h;obtain⟨cs,p,j,l⟩:=h.rc;obtain⟨t,r,_⟩:=(l o).2.1 a;refine(yi h.rd h.var j h.s1 r ⟨_,rfl⟩).mono ?_
  rintro e q ⟨rfl,v,rfl,X,m⟩;obtain⟨r1,f⟩:=h.step a (ke a (by decide)) X m (x:=rdV 0 (p1 1 s.2.1) s.1) (.inr (.inl ⟨rfl,_,rfl,gH _ _⟩));exact⟨rfl,⟨r1,Nat.le_trans i f.size⟩,f⟩
 d:=fun s w o h _ a=>by
  obtain⟨h,i⟩:=h;obtain⟨cs,p,j,l⟩:=h.rc;obtain⟨A,n,c,r,_⟩:=(l o).2.2 a;refine(wY h.rd h.var j h.s1 r ⟨_,_,_,rfl⟩).mono ?_
  rintro e q ⟨rfl,v,C,D,c1,rfl,z,hn,X,m⟩;obtain⟨r1,f⟩:=h.step a (ke a (by decide)) X m (x:=rdV 0 (p1 2 s.2.1) s.1) (.inr (.inr ⟨rfl,_,_,_,rfl,z.low i,hn⟩));exact⟨rfl,⟨r1,Nat.le_trans i f.size⟩,f⟩
end
section
variable {w:World}{kd:Nat->Nat}{cs:List Value}{xs:Nat->Int}{tmps:Array Value}{g bb n c:Nat}{y0 y1 y2 y3 y4 y5:Value}{ao:Option Addr}{l:List Int}
theorem El{α:Type}(p:Int ⊕ α × Nat)(err:Int)(l:List Int):(rdL p err l).length<=l.length:=by
 unfold rdL;split
 ·cases p
  ·exact Nat.le_refl _
  ·simp
 ·exact Nat.le_refl _
theorem lR(a:List (Nat × Nat)):∀ s:RSt,(thr rnx a s).2.1.length<=s.2.1.length:=by
 induction a with
 | nil=>intro s;exact Nat.le_refl _
 | cons p a ih =>
  intro s
  have e:thr rnx (p :: a) s=thr rnx a (rnx p.1 p.2 s):=rfl;rw[e];exact Nat.le_trans (ih _) (El _ _ _)
structure gA(w:World)(kd:Nat->Nat)(len:Nat)(mk:List Value->Value)(s:RSt)(e:Ending)(w':World):Prop where
 ex:∃ cs xs r,e=.returned (.tuple #[mk cs,.int .i64 r])/\cs.length=len/\lE w' w.heap.size kd cs xs/\(dF s.1 s.2.1=0->r=0/\xs=s.2.2)/\(dF s.1 s.2.1≠0->r=80/\xs=fun _=>0)
 bel:Below w.heap.size w w'
theorem lE.low{B B':Nat}(h:lE w B kd cs xs)(hB:B'<=B):lE w B' kd cs xs:=fun o=>⟨(h o).1,(h o).2.1,fun hk=>by
 obtain⟨ao,n,c,h1,h2,h3⟩:=(h o).2.2 hk
 exact⟨ao,n,c,h1,h2.low hB,h3⟩⟩
theorem fR{fn:Func}{p u:Tmp}{T:TypeId}(h:fn.results=#[.cell p T,.tmp u]){v x:Value}(c:tmps.getD p undef=.pointer (some ⟨g,0,none⟩))(hu:tmps.getD u undef=x)(d:(loadVar T ⟨g,0,none⟩).run Tryz.prog w=.ok v w):(results fn tmps).run Tryz.prog w=.ok (.tuple #[v,x]) w:=by
 have a:tmps[p]?.getD undef=.pointer (some ⟨g,0,none⟩):=by simpa using c
 have b:tmps[u]?.getD undef=x:=by simpa using hu
 simp[results,h,a,b,asAddr,d]
def mkA(cs:List Value):Value:=.agg cs.toArray
def mkO(cs:List Value):Value:=cs.headD undef
theorem mG(c0:w.cell? ⟨g,0,none⟩=some y0)(c1:w.cell? ⟨g,1,none⟩=some y1):(loadVar 40 ⟨g,0,none⟩).run Tryz.prog w=.ok (.agg #[y0,y1]) w:=by go_simp
theorem sJ(A:ByA w bb ao n c l)(hn:n≤1000000000)(hl:l.length=n) :
    Calls Tryz.prog 186 #[.slice ao n c,.func (.func 86) #[] #[]] w (gA w bL 2 mkA (thr rnx [(0,0),(0,1)] (0,l,fun _=>(0:Int)))):=by
  have b1:=af w (.cells #[.int .u64 0,.int .u64 0] 40);have b2:=af (w.alloc (.cells #[.int .u64 0,.int .u64 0] 40)) (.cells #[.int .u64 0,.int .u64 0] 40);have O:=af ((w.alloc (.cells #[.int .u64 0,.int .u64 0] 40)).alloc (.cells #[.int .u64 0,.int .u64 0] 40)) (.cells #[.int .u64 0,.int .u64 0] 40);have z1:=bC w (.cells #[.int .u64 0,.int .u64 0] 40);have z2:=bC (w.alloc (.cells #[.int .u64 0,.int .u64 0] 40)) (.cells #[.int .u64 0,.int .u64 0] 40);have Q:=bC ((w.alloc (.cells #[.int .u64 0,.int .u64 0] 40)).alloc (.cells #[.int .u64 0,.int .u64 0] 40)) (.cells #[.int .u64 0,.int .u64 0] 40);have y1:=((aj w [.int .u64 0,.int .u64 0] 40).keep b2).keep O;have W:=(aj (w.alloc (.cells #[.int .u64 0,.int .u64 0] 40)) [.int .u64 0,.int .u64 0] 40).keep O;have P:=aj ((w.alloc (.cells #[.int .u64 0,.int .u64 0] 40)).alloc (.cells #[.int .u64 0,.int .u64 0] 40)) [.int .u64 0,.int .u64 0] 40;rw[z2,z1] at P;rw[z1] at W;rw[z2,z1] at Q;obtain⟨W3,N⟩:∃ W3,Hid ((((w.alloc (.cells #[.int .u64 0,.int .u64 0] 40)).alloc (.cells #[.int .u64 0,.int .u64 0] 40)).alloc (.cells #[.int .u64 0,.int .u64 0] 40))=W3):=⟨_,rfl⟩;have S:=ai (ai b1 b2) O;rw[N.out] at S y1 W P Q;have HN:=ah (wL (A.keep S) (by omega));have Y1:=ah y1;have Y2:=ah W;have Y3:=ah P;have Z3:=ah Q;have HBB:=ah S;have HL:=ah hl;clear b1 b2 O z1 z2 Q y1 W P S A hl;obtain⟨st,C⟩:∃ st,Hid (thr rnx [(0,0),(0,1)] (0,l,fun _=>(0:Int))=st):=⟨_,rfl⟩
  have hsl:st.2.1.length≤n:=by have h:=lR [(0,0),(0,1)] (0,l,fun _=>(0:Int));rw[C.out] at h;rw[HL.out] at h;exact h
  rw[C.out];go_enter Tryz.func186,Tryz.ntmps186;go_wp2_with fail;rw[N.out];refine HN.out.mono ?_
  rintro e' L ⟨g,b',rfl,hg,hb',X4,G⟩;have v:=af L (.cells #[.pointer (some ⟨g,0,none⟩)] 257);have v5:=aj L [.pointer (some ⟨g,0,none⟩)] 257;have z5:=bC L (.cells #[.pointer (some ⟨g,0,none⟩)] 257);obtain⟨t,M⟩:∃ t,Hid (L.alloc (.cells #[.pointer (some ⟨g,0,none⟩)] 257)=t):=⟨_,rfl⟩;rw[M.out] at v v5 z5;have hgl:=X4.lt;have hz3:=Z3.out;have hz4:=G.size
  have F0 : lE t t.heap.size bL [.int .u64 0, .int .u64 0] (fun _ => 0) := fun o => match o with
    | 0=>⟨fun _=>rfl,fun h=>absurd h (by decide),fun h=>absurd h (by decide)⟩
    | 1=>⟨fun _=>rfl,fun h=>absurd h (by decide),fun h=>absurd h (by decide)⟩
    | k+2=>⟨fun h=>absurd h (by simp[bL]),fun h=>absurd h (by simp[bL]),fun h=>absurd h (by simp[bL])⟩
  have U:=lj (yE (w0:=w) (B:=t.heap.size) (g:=g) (b:=b') (vb:=L.heap.size) (rb:=w.heap.size+1) (T:=40) (vt:=257)) (s:=(0,l,fun _=>(0:Int))) (w:=t) ⟨⟨X4.keep v,v5,⟨_,rfl,(Y2.out.keep G).keep v,F0⟩,ai (ai HBB.out G) v,by omega,by omega,by omega,by omega,by omega,by omega,by omega,by omega⟩,Nat.le_refl _⟩ (by simp[bL]) trivial;rw[C.out] at U;have HU:=ah U;have P1:=ah ((Y1.out.keep G).keep v);have P3:=ah ((Y3.out.keep G).keep v);have D:=ah (show w.heap.size≠g∧w.heap.size+1+1≠g∧w.heap.size+1+1≠w.heap.size+1∧w.heap.size≠w.heap.size+1∧w.heap.size≤t.heap.size∧w.heap.size≤g from⟨by omega,by omega,by omega,by omega,by omega,by omega⟩);clear U v v5 z5 hgl hz3 hz4 F0 X4 G hg hb' HN Y1 Y2 Y3;go_wp2_with fail;rw[M.out];refine HU.out.mono ?_
  rintro e' w6 ⟨rfl,⟨r,hB6⟩,C6⟩;have c6:=r.var.cell (i:=0) rfl;go_wp2_with fail;refine(vX r.rd (by omega)).mono ?_
  rintro e' f ⟨rfl,X7,H⟩;obtain⟨X,hl6,R6,K⟩:= r.rc;obtain⟨d,J⟩:∃ d,Hid (st.2.2=d):=⟨_,rfl⟩;rw[J.out] at K;have hF6:=ah K;have q0:=(K 0).1 rfl;have q1:=(K 1).1 rfl
  have ecs:X=[.int .u64 (d 0),.int .u64 (d 1)]:=by
    apply List.ext_getElem?;intro i
    match i with
    | 0=>rw[q0];rfl
    | 1=>rw[q1];rfl
    | k+2=>rw[List.getElem?_eq_none (by omega),List.getElem?_eq_none (by simp)]
  subst ecs;have V:=But.chg H;have u:=(P1.out.chg C6 (fun h=>h.elim D.out.1 D.out.2.2.2.1)).chg V D.out.1;have Y:=(P3.out.chg C6 (fun h=>h.elim D.out.2.1 D.out.2.2.1)).chg V D.out.2.1;have K2:=R6.chg V r.s1;have BF:=ah (H.below r.bel D.out.2.2.2.2.2 (Nat.le_refl _));have Z:=ah ((hF6.out.off (w':=f) H.size (fun y hy hy2=>H.block y hy2 (by have:=r.g1;omega))));have I:=ah (show w.heap.size < t.heap.size∧w.heap.size < f.heap.size from⟨by have:=r.r1;omega,u.lt⟩);have u0:=u.cell (i:=0) rfl;have f0:=u.free 0;have v0:=K2.cell (i:=0) rfl;have o0:=Y.cell (i:=0) rfl;have u1:=u.cell (i:=1) rfl;have f1:=u.free 1;have v1:=K2.cell (i:=1) rfl;have o1:=Y.cell (i:=1) rfl;have q:=ah (show Blk ((f.setCell ⟨w.heap.size,0,none⟩ (.int .u64 (d 0))).setCell ⟨w.heap.size,1,none⟩ (.int .u64 (d 1))) w.heap.size [.int .u64 (d 0),.int .u64 (d 1)] 40 from((u.setCell (i:=0) (.int .u64 (d 0))).setCell (i:=1) (.int .u64 (d 1))));have j:=ah (show Chg (fun x=>x=w.heap.size) f ((f.setCell ⟨w.heap.size,0,none⟩ (.int .u64 (d 0))).setCell ⟨w.heap.size,1,none⟩ (.int .u64 (d 1))) from(((Chg.refl (fun x=>x=w.heap.size) f).cell (g:=w.heap.size) (i:=0) (.inl rfl) (.int .u64 (d 0))).cell (g:=w.heap.size) (i:=1) (.inl rfl) (.int .u64 (d 1))));have E:=ah (show Below w.heap.size w ((f.setCell ⟨w.heap.size,0,none⟩ (.int .u64 (d 0))).setCell ⟨w.heap.size,1,none⟩ (.int .u64 (d 1))) from((BF.out.setCell (p:=⟨w.heap.size,0,none⟩) (Nat.le_refl _) (.int .u64 (d 0))).setCell (p:=⟨w.heap.size,1,none⟩) (Nat.le_refl _) (.int .u64 (d 1))));have m:=ah (show Blk ((f.setCell ⟨w.heap.size,0,none⟩ (.int .u64 0)).setCell ⟨w.heap.size,1,none⟩ (.int .u64 0)) w.heap.size [.int .u64 0,.int .u64 0] 40 from((u.setCell (i:=0) (.int .u64 0)).setCell (i:=1) (.int .u64 0)));have KZchg:=ah (show Chg (fun x=>x=w.heap.size) f ((f.setCell ⟨w.heap.size,0,none⟩ (.int .u64 0)).setCell ⟨w.heap.size,1,none⟩ (.int .u64 0)) from(((Chg.refl (fun x=>x=w.heap.size) f).cell (g:=w.heap.size) (i:=0) (.inl rfl) (.int .u64 0)).cell (g:=w.heap.size) (i:=1) (.inl rfl) (.int .u64 0)));have F:=ah (show Below w.heap.size w ((f.setCell ⟨w.heap.size,0,none⟩ (.int .u64 0)).setCell ⟨w.heap.size,1,none⟩ (.int .u64 0)) from((BF.out.setCell (p:=⟨w.heap.size,0,none⟩) (Nat.le_refl _) (.int .u64 0)).setCell (p:=⟨w.heap.size,1,none⟩) (Nat.le_refl _) (.int .u64 0)));clear u K2 Y r C6 V H X7 R6 hl6 K c6 HU P1 P3 q0 q1;obtain⟨R,z⟩:∃ R,Hid (dF st.1 st.2.1=R):=⟨_,rfl⟩;rw[z.out];by_cases hE:R=0
  · subst hE
    go_wp2;refine bodyPost_ret (fR rfl rfl rfl (mG (q.out.cell (i:=0) rfl) (q.out.cell (i:=1) rfl))) rfl ?_
    exact⟨⟨[.int .u64 (d 0),.int .u64 (d 1)],d,0,rfl,rfl,(Z.out.off j.out.size (fun y hy _=>j.out.same y (by assumption) (fun e=>by have e':y=w.heap.size:=e;have:=I.out;omega))).low (by have:=I.out;omega),fun _=>⟨rfl,J.out.symm⟩,fun h=>absurd z.out h⟩,E.out⟩
  · have hE1:¬ (R=0):=hE
    go_wp2;refine bodyPost_ret (fR rfl rfl rfl (mG (m.out.cell (i:=0) rfl) (m.out.cell (i:=1) rfl))) rfl ?_
    exact⟨⟨[.int .u64 0,.int .u64 0],fun _=>0,80,rfl,rfl,(fun o=>match o with | 0=>⟨fun _=>rfl,fun h=>absurd h (by decide),fun h=>absurd h (by decide)⟩ | 1=>⟨fun _=>rfl,fun h=>absurd h (by decide),fun h=>absurd h (by decide)⟩ | k+2=>⟨fun h=>absurd h (by simp[bL]),fun h=>absurd h (by simp[bL]),fun h=>absurd h (by simp[bL])⟩),fun h=>absurd (z.out.symm.trans h) hE1,fun _=>⟨rfl,rfl⟩⟩,F.out⟩
theorem gh(c0:w.cell? ⟨g,0,none⟩=some y0)(c1:w.cell? ⟨g,1,none⟩=some y1)(c2:w.cell? ⟨g,2,none⟩=some y2)(b:w.cell? ⟨g,3,none⟩=some y3)(d:w.cell? ⟨g,4,none⟩=some y4)(c:w.cell? ⟨g,5,none⟩=some y5):(loadVar 42 ⟨g,0,none⟩).run Tryz.prog w=.ok (.agg #[y0,y1,y2,y3,y4,y5]) w:=by go_simp
theorem mU(A:ByA w bb ao n c l)(hn:n≤1000000000)(hl:l.length=n) :
    Calls Tryz.prog 145 #[.slice ao n c,.func (.func 144) #[] #[]] w (gA w aM 6 mkA (thr rnx [(0,0),(0,1),(0,2),(0,3),(0,4),(0,5)] (0,l,fun _=>(0:Int)))):=by
  have b1:=af w (.cells #[.int .u64 0,.int .u64 0,.int .u64 0,.int .u64 0,.int .u64 0,.int .u64 0] 42);have b2:=af (w.alloc (.cells #[.int .u64 0,.int .u64 0,.int .u64 0,.int .u64 0,.int .u64 0,.int .u64 0] 42)) (.cells #[.int .u64 0,.int .u64 0,.int .u64 0,.int .u64 0,.int .u64 0,.int .u64 0] 42);have Q:=af ((w.alloc (.cells #[.int .u64 0,.int .u64 0,.int .u64 0,.int .u64 0,.int .u64 0,.int .u64 0] 42)).alloc (.cells #[.int .u64 0,.int .u64 0,.int .u64 0,.int .u64 0,.int .u64 0,.int .u64 0] 42)) (.cells #[.int .u64 0,.int .u64 0,.int .u64 0,.int .u64 0,.int .u64 0,.int .u64 0] 42);have z1:=bC w (.cells #[.int .u64 0,.int .u64 0,.int .u64 0,.int .u64 0,.int .u64 0,.int .u64 0] 42);have z2:=bC (w.alloc (.cells #[.int .u64 0,.int .u64 0,.int .u64 0,.int .u64 0,.int .u64 0,.int .u64 0] 42)) (.cells #[.int .u64 0,.int .u64 0,.int .u64 0,.int .u64 0,.int .u64 0,.int .u64 0] 42);have S:=bC ((w.alloc (.cells #[.int .u64 0,.int .u64 0,.int .u64 0,.int .u64 0,.int .u64 0,.int .u64 0] 42)).alloc (.cells #[.int .u64 0,.int .u64 0,.int .u64 0,.int .u64 0,.int .u64 0,.int .u64 0] 42)) (.cells #[.int .u64 0,.int .u64 0,.int .u64 0,.int .u64 0,.int .u64 0,.int .u64 0] 42);have y1:=((aj w [.int .u64 0,.int .u64 0,.int .u64 0,.int .u64 0,.int .u64 0,.int .u64 0] 42).keep b2).keep Q;have Z:=(aj (w.alloc (.cells #[.int .u64 0,.int .u64 0,.int .u64 0,.int .u64 0,.int .u64 0,.int .u64 0] 42)) [.int .u64 0,.int .u64 0,.int .u64 0,.int .u64 0,.int .u64 0,.int .u64 0] 42).keep Q;have R:=aj ((w.alloc (.cells #[.int .u64 0,.int .u64 0,.int .u64 0,.int .u64 0,.int .u64 0,.int .u64 0] 42)).alloc (.cells #[.int .u64 0,.int .u64 0,.int .u64 0,.int .u64 0,.int .u64 0,.int .u64 0] 42)) [.int .u64 0,.int .u64 0,.int .u64 0,.int .u64 0,.int .u64 0,.int .u64 0] 42;rw[z2,z1] at R;rw[z1] at Z;rw[z2,z1] at S;obtain⟨W3,P⟩:∃ W3,Hid ((((w.alloc (.cells #[.int .u64 0,.int .u64 0,.int .u64 0,.int .u64 0,.int .u64 0,.int .u64 0] 42)).alloc (.cells #[.int .u64 0,.int .u64 0,.int .u64 0,.int .u64 0,.int .u64 0,.int .u64 0] 42)).alloc (.cells #[.int .u64 0,.int .u64 0,.int .u64 0,.int .u64 0,.int .u64 0,.int .u64 0] 42))=W3):=⟨_,rfl⟩;have W:=ai (ai b1 b2) Q;rw[P.out] at W y1 Z R S;have HN:=ah (wL (A.keep W) (by omega));have Y1:=ah y1;have Y2:=ah Z;have Y3:=ah R;have Z3:=ah S;have HBB:=ah W;have HL:=ah hl;clear b1 b2 Q z1 z2 S y1 Z R W A hl;obtain⟨st,E⟩:∃ st,Hid (thr rnx [(0,0),(0,1),(0,2),(0,3),(0,4),(0,5)] (0,l,fun _=>(0:Int))=st):=⟨_,rfl⟩
  have hsl:st.2.1.length≤n:=by have h:=lR [(0,0),(0,1),(0,2),(0,3),(0,4),(0,5)] (0,l,fun _=>(0:Int));rw[E.out] at h;rw[HL.out] at h;exact h
  rw[E.out];go_enter Tryz.func145,Tryz.ntmps145;go_wp2_with fail;rw[P.out];refine HN.out.mono ?_
  rintro e' N ⟨g,b',rfl,hg,hb',X4,J⟩;have C:=af N (.cells #[.pointer (some ⟨g,0,none⟩)] 257);have Y:=aj N [.pointer (some ⟨g,0,none⟩)] 257;have z5:=bC N (.cells #[.pointer (some ⟨g,0,none⟩)] 257);obtain⟨v,O⟩:∃ v,Hid (N.alloc (.cells #[.pointer (some ⟨g,0,none⟩)] 257)=v):=⟨_,rfl⟩;rw[O.out] at C Y z5;have hgl:=X4.lt;have hz3:=Z3.out;have hz4:=J.size
  have F0 : lE v v.heap.size aM [.int .u64 0, .int .u64 0, .int .u64 0, .int .u64 0, .int .u64 0, .int .u64 0] (fun _ => 0) := fun o => match o with
    | 0=>⟨fun _=>rfl,fun h=>absurd h (by decide),fun h=>absurd h (by decide)⟩
    | 1=>⟨fun _=>rfl,fun h=>absurd h (by decide),fun h=>absurd h (by decide)⟩
    | 2=>⟨fun _=>rfl,fun h=>absurd h (by decide),fun h=>absurd h (by decide)⟩
    | 3=>⟨fun _=>rfl,fun h=>absurd h (by decide),fun h=>absurd h (by decide)⟩
    | 4=>⟨fun _=>rfl,fun h=>absurd h (by decide),fun h=>absurd h (by decide)⟩
    | 5=>⟨fun _=>rfl,fun h=>absurd h (by decide),fun h=>absurd h (by decide)⟩
    | k+6=>⟨fun h=>absurd h (by simp[aM]),fun h=>absurd h (by simp[aM]),fun h=>absurd h (by simp[aM])⟩
  have U:=gz (nY (w0:=w) (B:=v.heap.size) (g:=g) (b:=b') (vb:=N.heap.size) (rb:=w.heap.size+1) (T:=42) (vt:=257)) (s:=(0,l,fun _=>(0:Int))) (w:=v) ⟨⟨X4.keep C,Y,⟨_,rfl,(Y2.out.keep J).keep C,F0⟩,ai (ai HBB.out J) C,by omega,by omega,by omega,by omega,by omega,by omega,by omega,by omega⟩,Nat.le_refl _⟩ (by simp[aM]) trivial;rw[E.out] at U;have HU:=ah U;have P1:=ah ((Y1.out.keep J).keep C);have P3:=ah ((Y3.out.keep J).keep C);have F:=ah (show w.heap.size≠g∧w.heap.size+1+1≠g∧w.heap.size+1+1≠w.heap.size+1∧w.heap.size≠w.heap.size+1∧w.heap.size≤v.heap.size∧w.heap.size≤g from⟨by omega,by omega,by omega,by omega,by omega,by omega⟩);clear U C Y z5 hgl hz3 hz4 F0 X4 J hg hb' HN Y1 Y2 Y3;go_wp2_with fail;rw[O.out];refine HU.out.mono ?_
  rintro e' w6 ⟨rfl,⟨u,hB6⟩,C6⟩;have c6:=u.var.cell (i:=0) rfl;go_wp2_with fail;refine(vX u.rd (by omega)).mono ?_
  rintro e' q ⟨rfl,X7,K⟩;obtain⟨aa,hl6,R6,t⟩:= u.rc;obtain⟨d,M⟩:∃ d,Hid (st.2.2=d):=⟨_,rfl⟩;rw[M.out] at t;have hF6:=ah t;have q0:=(t 0).1 rfl;have q1:=(t 1).1 rfl;have q2:=(t 2).1 rfl;have q3:=(t 3).1 rfl;have q4:=(t 4).1 rfl;have q5:=(t 5).1 rfl
  have ecs:aa=[.int .u64 (d 0),.int .u64 (d 1),.int .u64 (d 2),.int .u64 (d 3),.int .u64 (d 4),.int .u64 (d 5)]:=by
    apply List.ext_getElem?;intro i
    match i with
    | 0=>rw[q0];rfl
    | 1=>rw[q1];rfl
    | 2=>rw[q2];rfl
    | 3=>rw[q3];rfl
    | 4=>rw[q4];rfl
    | 5=>rw[q5];rfl
    | k+6=>rw[List.getElem?_eq_none (by omega),List.getElem?_eq_none (by simp)]
  subst ecs;have X:=But.chg K;have m:=(P1.out.chg C6 (fun h=>h.elim F.out.1 F.out.2.2.2.1)).chg X F.out.1;have z:=(P3.out.chg C6 (fun h=>h.elim F.out.2.1 F.out.2.2.1)).chg X F.out.2.1;have G:=R6.chg X u.s1;have BF:=ah (K.below u.bel F.out.2.2.2.2.2 (Nat.le_refl _));have ab:=ah ((hF6.out.off (w':=q) K.size (fun y hy hy2=>K.block y hy2 (by have:=u.g1;omega))));have L:=ah (show w.heap.size < v.heap.size∧w.heap.size < q.heap.size from⟨by have:=u.r1;omega,m.lt⟩);have u0:=m.cell (i:=0) rfl;have f0:=m.free 0;have v0:=G.cell (i:=0) rfl;have o0:=z.cell (i:=0) rfl;have u1:=m.cell (i:=1) rfl;have f1:=m.free 1;have v1:=G.cell (i:=1) rfl;have o1:=z.cell (i:=1) rfl;have u2:=m.cell (i:=2) rfl;have f2:=m.free 2;have v2:=G.cell (i:=2) rfl;have o2:=z.cell (i:=2) rfl;have u3:=m.cell (i:=3) rfl;have f3:=m.free 3;have v3:=G.cell (i:=3) rfl;have o3:=z.cell (i:=3) rfl;have u4:=m.cell (i:=4) rfl;have f4:=m.free 4;have v4:=G.cell (i:=4) rfl;have o4:=z.cell (i:=4) rfl;have u5:=m.cell (i:=5) rfl;have f5:=m.free 5;have Y:=G.cell (i:=5) rfl;have o5:=z.cell (i:=5) rfl;have j:=ah (show Blk ((((((q.setCell ⟨w.heap.size,0,none⟩ (.int .u64 (d 0))).setCell ⟨w.heap.size,1,none⟩ (.int .u64 (d 1))).setCell ⟨w.heap.size,2,none⟩ (.int .u64 (d 2))).setCell ⟨w.heap.size,3,none⟩ (.int .u64 (d 3))).setCell ⟨w.heap.size,4,none⟩ (.int .u64 (d 4))).setCell ⟨w.heap.size,5,none⟩ (.int .u64 (d 5))) w.heap.size [.int .u64 (d 0),.int .u64 (d 1),.int .u64 (d 2),.int .u64 (d 3),.int .u64 (d 4),.int .u64 (d 5)] 42 from((((((m.setCell (i:=0) (.int .u64 (d 0))).setCell (i:=1) (.int .u64 (d 1))).setCell (i:=2) (.int .u64 (d 2))).setCell (i:=3) (.int .u64 (d 3))).setCell (i:=4) (.int .u64 (d 4))).setCell (i:=5) (.int .u64 (d 5))));have r:=ah (show Chg (fun x=>x=w.heap.size) q ((((((q.setCell ⟨w.heap.size,0,none⟩ (.int .u64 (d 0))).setCell ⟨w.heap.size,1,none⟩ (.int .u64 (d 1))).setCell ⟨w.heap.size,2,none⟩ (.int .u64 (d 2))).setCell ⟨w.heap.size,3,none⟩ (.int .u64 (d 3))).setCell ⟨w.heap.size,4,none⟩ (.int .u64 (d 4))).setCell ⟨w.heap.size,5,none⟩ (.int .u64 (d 5))) from(((((((Chg.refl (fun x=>x=w.heap.size) q).cell (g:=w.heap.size) (i:=0) (.inl rfl) (.int .u64 (d 0))).cell (g:=w.heap.size) (i:=1) (.inl rfl) (.int .u64 (d 1))).cell (g:=w.heap.size) (i:=2) (.inl rfl) (.int .u64 (d 2))).cell (g:=w.heap.size) (i:=3) (.inl rfl) (.int .u64 (d 3))).cell (g:=w.heap.size) (i:=4) (.inl rfl) (.int .u64 (d 4))).cell (g:=w.heap.size) (i:=5) (.inl rfl) (.int .u64 (d 5))));have H:=ah (show Below w.heap.size w ((((((q.setCell ⟨w.heap.size,0,none⟩ (.int .u64 (d 0))).setCell ⟨w.heap.size,1,none⟩ (.int .u64 (d 1))).setCell ⟨w.heap.size,2,none⟩ (.int .u64 (d 2))).setCell ⟨w.heap.size,3,none⟩ (.int .u64 (d 3))).setCell ⟨w.heap.size,4,none⟩ (.int .u64 (d 4))).setCell ⟨w.heap.size,5,none⟩ (.int .u64 (d 5))) from((((((BF.out.setCell (p:=⟨w.heap.size,0,none⟩) (Nat.le_refl _) (.int .u64 (d 0))).setCell (p:=⟨w.heap.size,1,none⟩) (Nat.le_refl _) (.int .u64 (d 1))).setCell (p:=⟨w.heap.size,2,none⟩) (Nat.le_refl _) (.int .u64 (d 2))).setCell (p:=⟨w.heap.size,3,none⟩) (Nat.le_refl _) (.int .u64 (d 3))).setCell (p:=⟨w.heap.size,4,none⟩) (Nat.le_refl _) (.int .u64 (d 4))).setCell (p:=⟨w.heap.size,5,none⟩) (Nat.le_refl _) (.int .u64 (d 5))));have f:=ah (show Blk ((((((q.setCell ⟨w.heap.size,0,none⟩ (.int .u64 0)).setCell ⟨w.heap.size,1,none⟩ (.int .u64 0)).setCell ⟨w.heap.size,2,none⟩ (.int .u64 0)).setCell ⟨w.heap.size,3,none⟩ (.int .u64 0)).setCell ⟨w.heap.size,4,none⟩ (.int .u64 0)).setCell ⟨w.heap.size,5,none⟩ (.int .u64 0)) w.heap.size [.int .u64 0,.int .u64 0,.int .u64 0,.int .u64 0,.int .u64 0,.int .u64 0] 42 from((((((m.setCell (i:=0) (.int .u64 0)).setCell (i:=1) (.int .u64 0)).setCell (i:=2) (.int .u64 0)).setCell (i:=3) (.int .u64 0)).setCell (i:=4) (.int .u64 0)).setCell (i:=5) (.int .u64 0)))
  have KZchg:=ah (show Chg (fun x=>x=w.heap.size) q ((((((q.setCell ⟨w.heap.size,0,none⟩ (.int .u64 0)).setCell ⟨w.heap.size,1,none⟩ (.int .u64 0)).setCell ⟨w.heap.size,2,none⟩ (.int .u64 0)).setCell ⟨w.heap.size,3,none⟩ (.int .u64 0)).setCell ⟨w.heap.size,4,none⟩ (.int .u64 0)).setCell ⟨w.heap.size,5,none⟩ (.int .u64 0)) from(((((((Chg.refl (fun x=>x=w.heap.size) q).cell (g:=w.heap.size) (i:=0) (.inl rfl) (.int .u64 0)).cell (g:=w.heap.size) (i:=1) (.inl rfl) (.int .u64 0)).cell (g:=w.heap.size) (i:=2) (.inl rfl) (.int .u64 0)).cell (g:=w.heap.size) (i:=3) (.inl rfl) (.int .u64 0)).cell (g:=w.heap.size) (i:=4) (.inl rfl) (.int .u64 0)).cell (g:=w.heap.size) (i:=5) (.inl rfl) (.int .u64 0)));have I:=ah (show Below w.heap.size w ((((((q.setCell ⟨w.heap.size,0,none⟩ (.int .u64 0)).setCell ⟨w.heap.size,1,none⟩ (.int .u64 0)).setCell ⟨w.heap.size,2,none⟩ (.int .u64 0)).setCell ⟨w.heap.size,3,none⟩ (.int .u64 0)).setCell ⟨w.heap.size,4,none⟩ (.int .u64 0)).setCell ⟨w.heap.size,5,none⟩ (.int .u64 0)) from((((((BF.out.setCell (p:=⟨w.heap.size,0,none⟩) (Nat.le_refl _) (.int .u64 0)).setCell (p:=⟨w.heap.size,1,none⟩) (Nat.le_refl _) (.int .u64 0)).setCell (p:=⟨w.heap.size,2,none⟩) (Nat.le_refl _) (.int .u64 0)).setCell (p:=⟨w.heap.size,3,none⟩) (Nat.le_refl _) (.int .u64 0)).setCell (p:=⟨w.heap.size,4,none⟩) (Nat.le_refl _) (.int .u64 0)).setCell (p:=⟨w.heap.size,5,none⟩) (Nat.le_refl _) (.int .u64 0)));clear m G z u C6 X K X7 R6 hl6 t c6 HU P1 P3 q0 q1 q2 q3 q4 q5;obtain⟨V,D⟩:∃ V,Hid (dF st.1 st.2.1=V):=⟨_,rfl⟩;rw[D.out];by_cases hE:V=0
  · subst hE
    go_wp2;refine bodyPost_ret (fR rfl rfl rfl (gh (j.out.cell (i:=0) rfl) (j.out.cell (i:=1) rfl) (j.out.cell (i:=2) rfl) (j.out.cell (i:=3) rfl) (j.out.cell (i:=4) rfl) (j.out.cell (i:=5) rfl))) rfl ?_
    exact⟨⟨[.int .u64 (d 0),.int .u64 (d 1),.int .u64 (d 2),.int .u64 (d 3),.int .u64 (d 4),.int .u64 (d 5)],d,0,rfl,rfl,(ab.out.off r.out.size (fun y hy _=>r.out.same y (by assumption) (fun e=>by have e':y=w.heap.size:=e;have:=L.out;omega))).low (by have:=L.out;omega),fun _=>⟨rfl,M.out.symm⟩,fun h=>absurd D.out h⟩,H.out⟩
  · have hE1:¬ (V=0):=hE
    go_wp2;refine bodyPost_ret (fR rfl rfl rfl (gh (f.out.cell (i:=0) rfl) (f.out.cell (i:=1) rfl) (f.out.cell (i:=2) rfl) (f.out.cell (i:=3) rfl) (f.out.cell (i:=4) rfl) (f.out.cell (i:=5) rfl))) rfl ?_
    exact⟨⟨[.int .u64 0,.int .u64 0,.int .u64 0,.int .u64 0,.int .u64 0,.int .u64 0],fun _=>0,80,rfl,rfl,(fun o=>match o with | 0=>⟨fun _=>rfl,fun h=>absurd h (by decide),fun h=>absurd h (by decide)⟩ | 1=>⟨fun _=>rfl,fun h=>absurd h (by decide),fun h=>absurd h (by decide)⟩ | 2=>⟨fun _=>rfl,fun h=>absurd h (by decide),fun h=>absurd h (by decide)⟩ | 3=>⟨fun _=>rfl,fun h=>absurd h (by decide),fun h=>absurd h (by decide)⟩ | 4=>⟨fun _=>rfl,fun h=>absurd h (by decide),fun h=>absurd h (by decide)⟩ | 5=>⟨fun _=>rfl,fun h=>absurd h (by decide),fun h=>absurd h (by decide)⟩ | k+6=>⟨fun h=>absurd h (by simp[aM]),fun h=>absurd h (by simp[aM]),fun h=>absurd h (by simp[aM])⟩),fun h=>absurd (D.out.symm.trans h) hE1,fun _=>⟨rfl,rfl⟩⟩,I.out⟩
theorem ra{b:Value}(c0:w.cell? ⟨g,0,none⟩=some y0)(c1:w.cell? ⟨g,1,none⟩=some y1)(c2:w.cell? ⟨g,2,none⟩=some y2)(c:w.cell? ⟨g,3,none⟩=some y3)(i:w.cell? ⟨g,4,none⟩=some y4)(d:w.cell? ⟨g,5,none⟩=some y5)(f:w.cell? ⟨g,6,none⟩=some b):(loadVar 48 ⟨g,0,none⟩).run Tryz.prog w=.ok (.agg #[y0,y1,y2,y3,y4,y5,b]) w:=by go_simp
theorem wT(A:ByA w bb ao n c l)(hn:n≤1000000000)(hl:l.length=n) :
    Calls Tryz.prog 150 #[.slice ao n c,.func (.func 149) #[] #[]] w (gA w bR 7 mkA (thr rnx [(0,0),(0,1),(0,2),(0,3),(0,4),(0,5),(2,6)] (0,l,fun _=>(0:Int)))):=by
  have b1:=af w (.cells #[.int .u64 0,.int .u64 0,.int .u64 0,.int .u64 0,.int .u64 0,.int .u64 0,.slice none 0 0] 48);have b2:=af (w.alloc (.cells #[.int .u64 0,.int .u64 0,.int .u64 0,.int .u64 0,.int .u64 0,.int .u64 0,.slice none 0 0] 48)) (.cells #[.int .u64 0,.int .u64 0,.int .u64 0,.int .u64 0,.int .u64 0,.int .u64 0,.slice none 0 0] 48);have S:=af ((w.alloc (.cells #[.int .u64 0,.int .u64 0,.int .u64 0,.int .u64 0,.int .u64 0,.int .u64 0,.slice none 0 0] 48)).alloc (.cells #[.int .u64 0,.int .u64 0,.int .u64 0,.int .u64 0,.int .u64 0,.int .u64 0,.slice none 0 0] 48)) (.cells #[.int .u64 0,.int .u64 0,.int .u64 0,.int .u64 0,.int .u64 0,.int .u64 0,.slice none 0 0] 48);have z1:=bC w (.cells #[.int .u64 0,.int .u64 0,.int .u64 0,.int .u64 0,.int .u64 0,.int .u64 0,.slice none 0 0] 48);have z2:=bC (w.alloc (.cells #[.int .u64 0,.int .u64 0,.int .u64 0,.int .u64 0,.int .u64 0,.int .u64 0,.slice none 0 0] 48)) (.cells #[.int .u64 0,.int .u64 0,.int .u64 0,.int .u64 0,.int .u64 0,.int .u64 0,.slice none 0 0] 48);have W:=bC ((w.alloc (.cells #[.int .u64 0,.int .u64 0,.int .u64 0,.int .u64 0,.int .u64 0,.int .u64 0,.slice none 0 0] 48)).alloc (.cells #[.int .u64 0,.int .u64 0,.int .u64 0,.int .u64 0,.int .u64 0,.int .u64 0,.slice none 0 0] 48)) (.cells #[.int .u64 0,.int .u64 0,.int .u64 0,.int .u64 0,.int .u64 0,.int .u64 0,.slice none 0 0] 48);have y1:=((aj w [.int .u64 0,.int .u64 0,.int .u64 0,.int .u64 0,.int .u64 0,.int .u64 0,.slice none 0 0] 48).keep b2).keep S;have y2:=(aj (w.alloc (.cells #[.int .u64 0,.int .u64 0,.int .u64 0,.int .u64 0,.int .u64 0,.int .u64 0,.slice none 0 0] 48)) [.int .u64 0,.int .u64 0,.int .u64 0,.int .u64 0,.int .u64 0,.int .u64 0,.slice none 0 0] 48).keep S;have V:=aj ((w.alloc (.cells #[.int .u64 0,.int .u64 0,.int .u64 0,.int .u64 0,.int .u64 0,.int .u64 0,.slice none 0 0] 48)).alloc (.cells #[.int .u64 0,.int .u64 0,.int .u64 0,.int .u64 0,.int .u64 0,.int .u64 0,.slice none 0 0] 48)) [.int .u64 0,.int .u64 0,.int .u64 0,.int .u64 0,.int .u64 0,.int .u64 0,.slice none 0 0] 48;rw[z2,z1] at V;rw[z1] at y2;rw[z2,z1] at W;obtain⟨W3,R⟩:∃ W3,Hid ((((w.alloc (.cells #[.int .u64 0,.int .u64 0,.int .u64 0,.int .u64 0,.int .u64 0,.int .u64 0,.slice none 0 0] 48)).alloc (.cells #[.int .u64 0,.int .u64 0,.int .u64 0,.int .u64 0,.int .u64 0,.int .u64 0,.slice none 0 0] 48)).alloc (.cells #[.int .u64 0,.int .u64 0,.int .u64 0,.int .u64 0,.int .u64 0,.int .u64 0,.slice none 0 0] 48))=W3):=⟨_,rfl⟩;have Y:=ai (ai b1 b2) S;rw[R.out] at Y y1 y2 V W;have HN:=ah (wL (A.keep Y) (by omega));have Y1:=ah y1;have Y2:=ah y2;have Y3:=ah V;have Z3:=ah W;have HBB:=ah Y;have HL:=ah hl;clear b1 b2 S z1 z2 W y1 y2 V Y A hl;obtain⟨st,H⟩:∃ st,Hid (thr rnx [(0,0),(0,1),(0,2),(0,3),(0,4),(0,5),(2,6)] (0,l,fun _=>(0:Int))=st):=⟨_,rfl⟩
  have hsl:st.2.1.length≤n:=by have h:=lR [(0,0),(0,1),(0,2),(0,3),(0,4),(0,5),(2,6)] (0,l,fun _=>(0:Int));rw[H.out] at h;rw[HL.out] at h;exact h
  rw[H.out];go_enter Tryz.func150,Tryz.ntmps150;go_wp2_with fail;rw[R.out];refine HN.out.mono ?_
  rintro e' P ⟨g,b',rfl,hg,hb',X4,L⟩;have F:=af P (.cells #[.pointer (some ⟨g,0,none⟩)] 257);have v5:=aj P [.pointer (some ⟨g,0,none⟩)] 257;have z5:=bC P (.cells #[.pointer (some ⟨g,0,none⟩)] 257);obtain⟨D,Q⟩:∃ D,Hid (P.alloc (.cells #[.pointer (some ⟨g,0,none⟩)] 257)=D):=⟨_,rfl⟩;rw[Q.out] at F v5 z5;have hgl:=X4.lt;have hz3:=Z3.out;have hz4:=L.size
  have F0 : lE D D.heap.size bR [.int .u64 0, .int .u64 0, .int .u64 0, .int .u64 0, .int .u64 0, .int .u64 0, .slice none 0 0] (fun _ => 0) := fun o => match o with
    | 0=>⟨fun _=>rfl,fun h=>absurd h (by decide),fun h=>absurd h (by decide)⟩
    | 1=>⟨fun _=>rfl,fun h=>absurd h (by decide),fun h=>absurd h (by decide)⟩
    | 2=>⟨fun _=>rfl,fun h=>absurd h (by decide),fun h=>absurd h (by decide)⟩
    | 3=>⟨fun _=>rfl,fun h=>absurd h (by decide),fun h=>absurd h (by decide)⟩
    | 4=>⟨fun _=>rfl,fun h=>absurd h (by decide),fun h=>absurd h (by decide)⟩
    | 5=>⟨fun _=>rfl,fun h=>absurd h (by decide),fun h=>absurd h (by decide)⟩
    | 6=>⟨fun h=>absurd h (by decide),fun h=>absurd h (by decide),fun _=>⟨none,0,0,rfl,fb _ _,by decide⟩⟩
    | k+7=>⟨fun h=>absurd h (by simp[bR]),fun h=>absurd h (by simp[bR]),fun h=>absurd h (by simp[bR])⟩
  have U:=nM (Bd (w0:=w) (B:=D.heap.size) (g:=g) (b:=b') (vb:=P.heap.size) (rb:=w.heap.size+1) (T:=48) (vt:=257)) (s:=(0,l,fun _=>(0:Int))) (w:=D) ⟨⟨X4.keep F,v5,⟨_,rfl,(Y2.out.keep L).keep F,F0⟩,ai (ai HBB.out L) F,by omega,by omega,by omega,by omega,by omega,by omega,by omega,by omega⟩,Nat.le_refl _⟩ (by simp[bR]) trivial;rw[H.out] at U;have HU:=ah U;have P1:=ah ((Y1.out.keep L).keep F);have P3:=ah ((Y3.out.keep L).keep F);have I:=ah (show w.heap.size≠g∧w.heap.size+1+1≠g∧w.heap.size+1+1≠w.heap.size+1∧w.heap.size≠w.heap.size+1∧w.heap.size≤D.heap.size∧w.heap.size≤g from⟨by omega,by omega,by omega,by omega,by omega,by omega⟩);clear U F v5 z5 hgl hz3 hz4 F0 X4 L hg hb' HN Y1 Y2 Y3;go_wp2_with fail;rw[Q.out];refine HU.out.mono ?_
  rintro e' w6 ⟨rfl,⟨C,hB6⟩,C6⟩;have c6:=C.var.cell (i:=0) rfl;go_wp2_with fail;refine(vX C.rd (by omega)).mono ?_
  rintro e' q ⟨rfl,X7,M⟩;obtain⟨cs6,hl6,R6,t⟩:= C.rc;obtain⟨d,O⟩:∃ d,Hid (st.2.2=d):=⟨_,rfl⟩;rw[O.out] at t;have hF6:=ah t;have q0:=(t 0).1 rfl;have q1:=(t 1).1 rfl;have q2:=(t 2).1 rfl;have q3:=(t 3).1 rfl;have q4:=(t 4).1 rfl;have q5:=(t 5).1 rfl;obtain⟨v,u,d6,q6,-,-⟩:= (t 6).2.2 rfl
  have ecs:cs6=[.int .u64 (d 0),.int .u64 (d 1),.int .u64 (d 2),.int .u64 (d 3),.int .u64 (d 4),.int .u64 (d 5),.slice v u d6]:=by
    apply List.ext_getElem?;intro i
    match i with
    | 0=>rw[q0];rfl
    | 1=>rw[q1];rfl
    | 2=>rw[q2];rfl
    | 3=>rw[q3];rfl
    | 4=>rw[q4];rfl
    | 5=>rw[q5];rfl
    | 6=>rw[q6];rfl
    | k+7=>rw[List.getElem?_eq_none (by omega),List.getElem?_eq_none (by simp)]
  subst ecs;have Z:=But.chg M;have m:=(P1.out.chg C6 (fun h=>h.elim I.out.1 I.out.2.2.2.1)).chg Z I.out.1;have z:=(P3.out.chg C6 (fun h=>h.elim I.out.2.1 I.out.2.2.1)).chg Z I.out.2.1;have E:=R6.chg Z C.s1;have BF:=ah (M.below C.bel I.out.2.2.2.2.2 (Nat.le_refl _));have hF7:=ah ((hF6.out.off (w':=q) M.size (fun y hy hy2=>M.block y hy2 (by have:=C.g1;omega))));have N:=ah (show w.heap.size < D.heap.size∧w.heap.size < q.heap.size from⟨by have:=C.r1;omega,m.lt⟩);have u0:=m.cell (i:=0) rfl;have f0:=m.free 0;have v0:=E.cell (i:=0) rfl;have o0:=z.cell (i:=0) rfl;have u1:=m.cell (i:=1) rfl;have f1:=m.free 1;have v1:=E.cell (i:=1) rfl;have o1:=z.cell (i:=1) rfl;have u2:=m.cell (i:=2) rfl;have f2:=m.free 2;have v2:=E.cell (i:=2) rfl;have o2:=z.cell (i:=2) rfl;have u3:=m.cell (i:=3) rfl;have f3:=m.free 3;have v3:=E.cell (i:=3) rfl;have o3:=z.cell (i:=3) rfl;have u4:=m.cell (i:=4) rfl;have f4:=m.free 4;have v4:=E.cell (i:=4) rfl;have o4:=z.cell (i:=4) rfl;have u5:=m.cell (i:=5) rfl;have f5:=m.free 5;have v5:=E.cell (i:=5) rfl;have o5:=z.cell (i:=5) rfl;have u6:=m.cell (i:=6) rfl;have f6:=m.free 6;have v6:=E.cell (i:=6) rfl;have o6:=z.cell (i:=6) rfl;have j:=ah (show Blk (((((((q.setCell ⟨w.heap.size,0,none⟩ (.int .u64 (d 0))).setCell ⟨w.heap.size,1,none⟩ (.int .u64 (d 1))).setCell ⟨w.heap.size,2,none⟩ (.int .u64 (d 2))).setCell ⟨w.heap.size,3,none⟩ (.int .u64 (d 3))).setCell ⟨w.heap.size,4,none⟩ (.int .u64 (d 4))).setCell ⟨w.heap.size,5,none⟩ (.int .u64 (d 5))).setCell ⟨w.heap.size,6,none⟩ (.slice v u d6)) w.heap.size [.int .u64 (d 0),.int .u64 (d 1),.int .u64 (d 2),.int .u64 (d 3),.int .u64 (d 4),.int .u64 (d 5),.slice v u d6] 48 from(((((((m.setCell (i:=0) (.int .u64 (d 0))).setCell (i:=1) (.int .u64 (d 1))).setCell (i:=2) (.int .u64 (d 2))).setCell (i:=3) (.int .u64 (d 3))).setCell (i:=4) (.int .u64 (d 4))).setCell (i:=5) (.int .u64 (d 5))).setCell (i:=6) (.slice v u d6)));have r:=ah (show Chg (fun x=>x=w.heap.size) q (((((((q.setCell ⟨w.heap.size,0,none⟩ (.int .u64 (d 0))).setCell ⟨w.heap.size,1,none⟩ (.int .u64 (d 1))).setCell ⟨w.heap.size,2,none⟩ (.int .u64 (d 2))).setCell ⟨w.heap.size,3,none⟩ (.int .u64 (d 3))).setCell ⟨w.heap.size,4,none⟩ (.int .u64 (d 4))).setCell ⟨w.heap.size,5,none⟩ (.int .u64 (d 5))).setCell ⟨w.heap.size,6,none⟩ (.slice v u d6)) from((((((((Chg.refl (fun x=>x=w.heap.size) q).cell (g:=w.heap.size) (i:=0) (.inl rfl) (.int .u64 (d 0))).cell (g:=w.heap.size) (i:=1) (.inl rfl) (.int .u64 (d 1))).cell (g:=w.heap.size) (i:=2) (.inl rfl) (.int .u64 (d 2))).cell (g:=w.heap.size) (i:=3) (.inl rfl) (.int .u64 (d 3))).cell (g:=w.heap.size) (i:=4) (.inl rfl) (.int .u64 (d 4))).cell (g:=w.heap.size) (i:=5) (.inl rfl) (.int .u64 (d 5))).cell (g:=w.heap.size) (i:=6) (.inl rfl) (.slice v u d6)));have J:=ah (show Below w.heap.size w (((((((q.setCell ⟨w.heap.size,0,none⟩ (.int .u64 (d 0))).setCell ⟨w.heap.size,1,none⟩ (.int .u64 (d 1))).setCell ⟨w.heap.size,2,none⟩ (.int .u64 (d 2))).setCell ⟨w.heap.size,3,none⟩ (.int .u64 (d 3))).setCell ⟨w.heap.size,4,none⟩ (.int .u64 (d 4))).setCell ⟨w.heap.size,5,none⟩ (.int .u64 (d 5))).setCell ⟨w.heap.size,6,none⟩ (.slice v u d6)) from(((((((BF.out.setCell (p:=⟨w.heap.size,0,none⟩) (Nat.le_refl _) (.int .u64 (d 0))).setCell (p:=⟨w.heap.size,1,none⟩) (Nat.le_refl _) (.int .u64 (d 1))).setCell (p:=⟨w.heap.size,2,none⟩) (Nat.le_refl _) (.int .u64 (d 2))).setCell (p:=⟨w.heap.size,3,none⟩) (Nat.le_refl _) (.int .u64 (d 3))).setCell (p:=⟨w.heap.size,4,none⟩) (Nat.le_refl _) (.int .u64 (d 4))).setCell (p:=⟨w.heap.size,5,none⟩) (Nat.le_refl _) (.int .u64 (d 5))).setCell (p:=⟨w.heap.size,6,none⟩) (Nat.le_refl _) (.slice v u d6)))
  have f:=ah (show Blk (((((((q.setCell ⟨w.heap.size,0,none⟩ (.int .u64 0)).setCell ⟨w.heap.size,1,none⟩ (.int .u64 0)).setCell ⟨w.heap.size,2,none⟩ (.int .u64 0)).setCell ⟨w.heap.size,3,none⟩ (.int .u64 0)).setCell ⟨w.heap.size,4,none⟩ (.int .u64 0)).setCell ⟨w.heap.size,5,none⟩ (.int .u64 0)).setCell ⟨w.heap.size,6,none⟩ (.slice none 0 0)) w.heap.size [.int .u64 0,.int .u64 0,.int .u64 0,.int .u64 0,.int .u64 0,.int .u64 0,.slice none 0 0] 48 from(((((((m.setCell (i:=0) (.int .u64 0)).setCell (i:=1) (.int .u64 0)).setCell (i:=2) (.int .u64 0)).setCell (i:=3) (.int .u64 0)).setCell (i:=4) (.int .u64 0)).setCell (i:=5) (.int .u64 0)).setCell (i:=6) (.slice none 0 0)));have KZchg:=ah (show Chg (fun x=>x=w.heap.size) q (((((((q.setCell ⟨w.heap.size,0,none⟩ (.int .u64 0)).setCell ⟨w.heap.size,1,none⟩ (.int .u64 0)).setCell ⟨w.heap.size,2,none⟩ (.int .u64 0)).setCell ⟨w.heap.size,3,none⟩ (.int .u64 0)).setCell ⟨w.heap.size,4,none⟩ (.int .u64 0)).setCell ⟨w.heap.size,5,none⟩ (.int .u64 0)).setCell ⟨w.heap.size,6,none⟩ (.slice none 0 0)) from((((((((Chg.refl (fun x=>x=w.heap.size) q).cell (g:=w.heap.size) (i:=0) (.inl rfl) (.int .u64 0)).cell (g:=w.heap.size) (i:=1) (.inl rfl) (.int .u64 0)).cell (g:=w.heap.size) (i:=2) (.inl rfl) (.int .u64 0)).cell (g:=w.heap.size) (i:=3) (.inl rfl) (.int .u64 0)).cell (g:=w.heap.size) (i:=4) (.inl rfl) (.int .u64 0)).cell (g:=w.heap.size) (i:=5) (.inl rfl) (.int .u64 0)).cell (g:=w.heap.size) (i:=6) (.inl rfl) (.slice none 0 0)));have K:=ah (show Below w.heap.size w (((((((q.setCell ⟨w.heap.size,0,none⟩ (.int .u64 0)).setCell ⟨w.heap.size,1,none⟩ (.int .u64 0)).setCell ⟨w.heap.size,2,none⟩ (.int .u64 0)).setCell ⟨w.heap.size,3,none⟩ (.int .u64 0)).setCell ⟨w.heap.size,4,none⟩ (.int .u64 0)).setCell ⟨w.heap.size,5,none⟩ (.int .u64 0)).setCell ⟨w.heap.size,6,none⟩ (.slice none 0 0)) from(((((((BF.out.setCell (p:=⟨w.heap.size,0,none⟩) (Nat.le_refl _) (.int .u64 0)).setCell (p:=⟨w.heap.size,1,none⟩) (Nat.le_refl _) (.int .u64 0)).setCell (p:=⟨w.heap.size,2,none⟩) (Nat.le_refl _) (.int .u64 0)).setCell (p:=⟨w.heap.size,3,none⟩) (Nat.le_refl _) (.int .u64 0)).setCell (p:=⟨w.heap.size,4,none⟩) (Nat.le_refl _) (.int .u64 0)).setCell (p:=⟨w.heap.size,5,none⟩) (Nat.le_refl _) (.int .u64 0)).setCell (p:=⟨w.heap.size,6,none⟩) (Nat.le_refl _) (.slice none 0 0)));clear m E z C C6 Z M X7 R6 hl6 t c6 HU P1 P3 q0 q1 q2 q3 q4 q5 q6;obtain⟨X,G⟩:∃ X,Hid (dF st.1 st.2.1=X):=⟨_,rfl⟩;rw[G.out];by_cases hE:X=0
  · subst hE
    go_wp2;refine bodyPost_ret (fR rfl rfl rfl (ra (j.out.cell (i:=0) rfl) (j.out.cell (i:=1) rfl) (j.out.cell (i:=2) rfl) (j.out.cell (i:=3) rfl) (j.out.cell (i:=4) rfl) (j.out.cell (i:=5) rfl) (j.out.cell (i:=6) rfl))) rfl ?_
    exact⟨⟨[.int .u64 (d 0),.int .u64 (d 1),.int .u64 (d 2),.int .u64 (d 3),.int .u64 (d 4),.int .u64 (d 5),.slice v u d6],d,0,rfl,rfl,(hF7.out.off r.out.size (fun y hy _=>r.out.same y (by assumption) (fun e=>by have e':y=w.heap.size:=e;have:=N.out;omega))).low (by have:=N.out;omega),fun _=>⟨rfl,O.out.symm⟩,fun h=>absurd G.out h⟩,J.out⟩
  · have hE1:¬ (X=0):=hE
    go_wp2;refine bodyPost_ret (fR rfl rfl rfl (ra (f.out.cell (i:=0) rfl) (f.out.cell (i:=1) rfl) (f.out.cell (i:=2) rfl) (f.out.cell (i:=3) rfl) (f.out.cell (i:=4) rfl) (f.out.cell (i:=5) rfl) (f.out.cell (i:=6) rfl))) rfl ?_
    exact⟨⟨[.int .u64 0,.int .u64 0,.int .u64 0,.int .u64 0,.int .u64 0,.int .u64 0,.slice none 0 0],fun _=>0,80,rfl,rfl,(fun o=>match o with | 0=>⟨fun _=>rfl,fun h=>absurd h (by decide),fun h=>absurd h (by decide)⟩ | 1=>⟨fun _=>rfl,fun h=>absurd h (by decide),fun h=>absurd h (by decide)⟩ | 2=>⟨fun _=>rfl,fun h=>absurd h (by decide),fun h=>absurd h (by decide)⟩ | 3=>⟨fun _=>rfl,fun h=>absurd h (by decide),fun h=>absurd h (by decide)⟩ | 4=>⟨fun _=>rfl,fun h=>absurd h (by decide),fun h=>absurd h (by decide)⟩ | 5=>⟨fun _=>rfl,fun h=>absurd h (by decide),fun h=>absurd h (by decide)⟩ | 6=>⟨fun h=>absurd h (by decide),fun h=>absurd h (by decide),fun _=>⟨none,0,0,rfl,fb _ _,by decide⟩⟩ | k+7=>⟨fun h=>absurd h (by simp[bR]),fun h=>absurd h (by simp[bR]),fun h=>absurd h (by simp[bR])⟩),fun h=>absurd (G.out.symm.trans h) hE1,fun _=>⟨rfl,rfl⟩⟩,K.out⟩
end
section
variable {w:World}{bb n c:Nat}{ao a6:Option Addr}{l:List Int}{x0 x1 x2 x3 x4 x5:Int}
theorem rW(A:ByA w bb ao n c l)(hn:n≤1000000000)(hl:l.length=n) :
    Calls Tryz.prog 116 #[.slice ao n c,.func (.func 117) #[] #[]] w (gA w bg 1 mkO (thr rnx [(0,0)] (0,l,fun _=>(0:Int)))):=by
  have z:=af w (.cells #[.int .u64 0] 22);have z1:=bC w (.cells #[.int .u64 0] 22);have K:=aj w [.int .u64 0] 22;obtain⟨V,x⟩:∃ V,Hid (w.alloc (.cells #[.int .u64 0] 22)=V):=⟨_,rfl⟩;rw[x.out] at z K z1;have HN:=ah (wL (A.keep z) (by omega));have X:=ah K;have Z3:=ah z1;have Q:=ah z;have HL:=ah hl;clear z z1 K A hl;obtain⟨st,j⟩:∃ st,Hid (thr rnx [(0,0)] (0,l,fun _=>(0:Int))=st):=⟨_,rfl⟩
  have hsl:st.2.1.length≤n:=by have h:=lR [(0,0)] (0,l,fun _=>(0:Int));rw[j.out] at h;rw[HL.out] at h;exact h
  rw[j.out];go_enter Tryz.func116,Tryz.ntmps116;go_wp2_with fail;rw[x.out];refine HN.out.mono ?_
  rintro e' t ⟨g,b',rfl,hg,N,H,D⟩;have q:=af t (.cells #[.pointer (some ⟨g,0,none⟩)] 257);have S:=aj t [.pointer (some ⟨g,0,none⟩)] 257;have Y:=bC t (.cells #[.pointer (some ⟨g,0,none⟩)] 257);obtain⟨m,v⟩:∃ m,Hid (t.alloc (.cells #[.pointer (some ⟨g,0,none⟩)] 257)=m):=⟨_,rfl⟩;rw[v.out] at q S Y;have J:=H.lt;have I:=Z3.out;have R:=D.size
  have Z : lE m m.heap.size bg [.int .u64 0] (fun _ => 0) := fun o => match o with
    | 0=>⟨fun _=>rfl,fun h=>absurd h (by decide),fun h=>absurd h (by decide)⟩
    | k+1=>⟨fun h=>absurd h (by simp[bg]),fun h=>absurd h (by simp[bg]),fun h=>absurd h (by simp[bg])⟩
  have U:=jk (uS (w0:=w) (B:=m.heap.size) (g:=g) (b:=b') (vb:=t.heap.size) (rb:=w.heap.size) (T:=22) (vt:=257)) (s:=(0,l,fun _=>(0:Int))) (w:=m) ⟨⟨H.keep q,S,⟨_,rfl,(X.out.keep D).keep q,Z⟩,ai (ai Q.out D) q,by omega,by omega,by omega,by omega,by omega,by omega,by omega,by omega⟩,Nat.le_refl _⟩ (by simp[bg]) trivial;rw[j.out] at U;have HU:=ah U;have HS:=ah (show w.heap.size≤m.heap.size∧w.heap.size≤g from⟨by omega,by omega⟩);clear U q S Y J I R Z H D hg N HN X;go_wp2_with fail;rw[v.out];refine HU.out.mono ?_
  rintro e' w6 ⟨rfl,⟨d,hB6⟩,C6⟩;have c6:=d.var.cell (i:=0) rfl;go_wp2_with fail;refine(vX d.rd (by omega)).mono ?_
  rintro e' w7 ⟨rfl,X7,p⟩;obtain⟨F,P,R6,C⟩:= d.rc;obtain⟨u,r⟩:∃ u,Hid (st.2.2=u):=⟨_,rfl⟩;rw[r.out] at C;have O:=ah C;have q0:=(C 0).1 rfl
  have ecs:F=[.int .u64 (u 0)]:=by
    apply List.ext_getElem?;intro i
    match i with
    | 0=>rw[q0];rfl
    | k+1=>rw[List.getElem?_eq_none (by omega),List.getElem?_eq_none (by simp)]
  subst ecs;have C7:=But.chg p;have K2:=R6.chg C7 d.s1;have W:=ah (p.below d.bel HS.out.2 (Nat.le_refl _));have G:=ah ((O.out.off (w':=w7) p.size (fun y hy L=>p.block y L (by have:=d.g1;omega))));have v0:=K2.cell (i:=0) rfl;clear K2 d C6 C7 p X7 R6 P C c6 HU q0;obtain⟨E,f⟩:∃ E,Hid (dF st.1 st.2.1=E):=⟨_,rfl⟩;rw[f.out];by_cases hE:E=0
  · subst hE
    go_wp2;go_ret2;exact⟨⟨[.int .u64 (u 0)],u,0,rfl,rfl,G.out.low HS.out.1,fun _=>⟨rfl,r.out.symm⟩,fun h=>absurd f.out h⟩,W.out⟩
  · have M:¬ (E=0):=hE
    go_wp2;go_ret2;exact⟨⟨[.int .u64 0],fun _=>0,80,rfl,rfl,(fun o=>match o with | 0=>⟨fun _=>rfl,fun h=>absurd h (by decide),fun h=>absurd h (by decide)⟩ | k+1=>⟨fun h=>absurd h (by simp[bg]),fun h=>absurd h (by simp[bg]),fun h=>absurd h (by simp[bg])⟩),fun h=>absurd (f.out.symm.trans h) M,fun _=>⟨rfl,rfl⟩⟩,W.out⟩
theorem pX :
  Calls Tryz.prog 34 #[.agg #[.int .u64 x0,.int .u64 x1]] w fun e w'=>∃ b n,e=.returned (.slice (some ⟨b,0,none⟩) n n)/\n=(thr (pnx (fun o=>([x0,x1]:List Int).getD o 0)) [(0,0),(0,1)] []).length/\Box w' b ((thr (pnx (fun o=>([x0,x1]:List Int).getD o 0)) [(0,0),(0,1)] []).map (Value.int .u8)) 5/\w.heap.size<=b/\Below w.heap.size w w':=by
 have g:=af w (.cells #[.int .u64 x0,.int .u64 x1] 40);have U:=yj (x0:=x0) (x1:=x1) (w:=w.alloc (.cells #[.int .u64 x0,.int .u64 x1] 40));have c:=ah g;generalize thr (pnx (fun o=>([x0,x1]:List Int).getD o 0)) [(0,0),(0,1)] []=M at *;have f:=ah U;clear U;go_enter Tryz.func34,Tryz.ntmps34;go_wp2_with fail;refine f.out.mono ?_
 rintro j d ⟨b,n,rfl,hn,X,hb,B⟩;have i:=ah (show n=M.length/\Box d b (M.map (Value.int .u8)) 5/\w.heap.size<=b/\Below w.heap.size w d from⟨hn,X,Nat.le_trans c.out.size hb,ai c.out B⟩);clear hn X hb B f c;go_wp2;go_ret;exact⟨b,n,rfl,i.out⟩
theorem xo(A:ByA w bb ao n c l)(hn:n<=1000000000)(v:l.length=n) :
  Calls Tryz.prog 141 #[.slice ao n c] w (gA w bL 2 mkA (thr rnx [(0,0),(0,1)] (0,l,fun _=>(0:Int)))):=by
 have m:=af w (.cells #[.int .u64 0,.int .u64 0] 40);have o:=aj w [.int .u64 0,.int .u64 0] 40;have z1:=bC w (.cells #[.int .u64 0,.int .u64 0] 40);have U:=sJ (A.keep m) hn v;generalize thr rnx [(0,0),(0,1)] (0,l,fun _=>(0:Int))=st at *;obtain⟨G,d⟩:∃ G,Hid (w.alloc (.cells #[.int .u64 0,.int .u64 0] 40)=G):=⟨_,rfl⟩
 rw[d.out] at m o z1 U;have H:=ah U;have s:=ah m;have z:=ah o;have I:=ah z1;clear A v m o z1 U;go_enter Tryz.func141,Tryz.ntmps141;go_wp2_with fail;rw[d.out];refine H.out.mono ?_
 rintro K f ⟨⟨cs,xs,r,rfl,J,j,C,u⟩,B⟩;have E:=(j 0).1 rfl;have F:=(j 1).1 rfl
 have ecs:cs=[.int .u64 (xs 0),.int .u64 (xs 1)]:=by
  apply List.ext_getElem?;intro i
  match i with
  | 0=>rw[E];rfl
  | 1=>rw[F];rfl
  | k+2=>rw[List.getElem?_eq_none (by omega),List.getElem?_eq_none (by simp)]
 subst ecs;have b:=z.out.keep B;have D:=ai s.out B;have u0:=b.cell (i:=0) rfl;have f0:=b.free 0;have u1:=b.cell (i:=1) rfl;have f1:=b.free 1;have KB:=ah (show Blk ((f.setCell ⟨w.heap.size,0,none⟩ (.int .u64 (xs 0))).setCell ⟨w.heap.size,1,none⟩ (.int .u64 (xs 1))) w.heap.size [.int .u64 (xs 0),.int .u64 (xs 1)] 40 from((b.setCell (i:=0) (.int .u64 (xs 0))).setCell (i:=1) (.int .u64 (xs 1))));have t:=ah (show Chg (fun x=>x=w.heap.size) f ((f.setCell ⟨w.heap.size,0,none⟩ (.int .u64 (xs 0))).setCell ⟨w.heap.size,1,none⟩ (.int .u64 (xs 1))) from(((Chg.refl (fun x=>x=w.heap.size) f).cell (g:=w.heap.size) (i:=0) (.inl rfl) (.int .u64 (xs 0))).cell (g:=w.heap.size) (i:=1) (.inl rfl) (.int .u64 (xs 1))));have L:=ah (show gA w bL 2 mkA st (.returned (.tuple #[.agg #[.int .u64 (xs 0),.int .u64 (xs 1)],.int .i64 r])) ((f.setCell ⟨w.heap.size,0,none⟩ (.int .u64 (xs 0))).setCell ⟨w.heap.size,1,none⟩ (.int .u64 (xs 1))) from⟨⟨[.int .u64 (xs 0),.int .u64 (xs 1)],xs,r,rfl,rfl,(j.off t.out.size (fun y hy q=>t.out.same y q (fun e=>by have K:y=w.heap.size:=e;have:=I.out;omega))).low s.out.size,C,u⟩,((D.setCell (p:=⟨w.heap.size,0,none⟩) (Nat.le_refl _) (.int .u64 (xs 0))).setCell (p:=⟨w.heap.size,1,none⟩) (Nat.le_refl _) (.int .u64 (xs 1)))⟩);clear J j C u B b D H t z s E F;simp only[mkA];go_wp2;refine bodyPost_ret (fR rfl rfl rfl (mG (KB.out.cell (i:=0) rfl) (KB.out.cell (i:=1) rfl))) rfl ?_
 exact L.out
theorem ki :
  Calls Tryz.prog 95 #[.agg #[.int .u64 x0,.int .u64 x1,.int .u64 x2,.int .u64 x3,.int .u64 x4,.int .u64 x5]] w fun e w'=>∃ b n,e=.returned (.slice (some ⟨b,0,none⟩) n n)/\n=(thr (pnx (fun o=>([x0,x1,x2,x3,x4,x5]:List Int).getD o 0)) [(0,0),(0,1),(0,2),(0,3),(0,4),(0,5)] []).length/\Box w' b ((thr (pnx (fun o=>([x0,x1,x2,x3,x4,x5]:List Int).getD o 0)) [(0,0),(0,1),(0,2),(0,3),(0,4),(0,5)] []).map (Value.int .u8)) 5/\w.heap.size<=b/\Below w.heap.size w w':=by
 have g:=af w (.cells #[.int .u64 x0,.int .u64 x1,.int .u64 x2,.int .u64 x3,.int .u64 x4,.int .u64 x5] 42);have U:=og (x0:=x0) (x1:=x1) (x2:=x2) (x3:=x3) (x4:=x4) (x5:=x5) (w:=w.alloc (.cells #[.int .u64 x0,.int .u64 x1,.int .u64 x2,.int .u64 x3,.int .u64 x4,.int .u64 x5] 42));have c:=ah g;generalize thr (pnx (fun o=>([x0,x1,x2,x3,x4,x5]:List Int).getD o 0)) [(0,0),(0,1),(0,2),(0,3),(0,4),(0,5)] []=M at *;have f:=ah U;clear U;go_enter Tryz.func95,Tryz.ntmps95;go_wp2_with fail;refine f.out.mono ?_
 rintro j d ⟨b,n,rfl,hn,X,hb,B⟩;have i:=ah (show n=M.length/\Box d b (M.map (Value.int .u8)) 5/\w.heap.size<=b/\Below w.heap.size w d from⟨hn,X,Nat.le_trans c.out.size hb,ai c.out B⟩);clear hn X hb B f c;go_wp2;go_ret;exact⟨b,n,rfl,i.out⟩
theorem nW(A:ByA w bb ao n c l)(hn:n<=1000000000)(C:l.length=n) :
  Calls Tryz.prog 96 #[.slice ao n c] w (gA w aM 6 mkA (thr rnx [(0,0),(0,1),(0,2),(0,3),(0,4),(0,5)] (0,l,fun _=>(0:Int)))):=by
 have m:=af w (.cells #[.int .u64 0,.int .u64 0,.int .u64 0,.int .u64 0,.int .u64 0,.int .u64 0] 42);have o:=aj w [.int .u64 0,.int .u64 0,.int .u64 0,.int .u64 0,.int .u64 0,.int .u64 0] 42;have z1:=bC w (.cells #[.int .u64 0,.int .u64 0,.int .u64 0,.int .u64 0,.int .u64 0,.int .u64 0] 42);have U:=mU (A.keep m) hn C;generalize thr rnx [(0,0),(0,1),(0,2),(0,3),(0,4),(0,5)] (0,l,fun _=>(0:Int))=st at *;obtain⟨J,f⟩:∃ J,Hid (w.alloc (.cells #[.int .u64 0,.int .u64 0,.int .u64 0,.int .u64 0,.int .u64 0,.int .u64 0] 42)=J):=⟨_,rfl⟩
 rw[f.out] at m o z1 U;have L:=ah U;have s:=ah m;have D:=ah o;have M:=ah z1;clear A C m o z1 U;go_enter Tryz.func96,Tryz.ntmps96;go_wp2_with fail;rw[f.out];refine L.out.mono ?_
 rintro O j ⟨⟨cs,xs,r,rfl,N,d,E,u⟩,B⟩;have H:=(d 0).1 rfl;have I:=(d 1).1 rfl;have G:=(d 2).1 rfl;have v:=(d 3).1 rfl;have K:=(d 4).1 rfl;have z:=(d 5).1 rfl
 have ecs:cs=[.int .u64 (xs 0),.int .u64 (xs 1),.int .u64 (xs 2),.int .u64 (xs 3),.int .u64 (xs 4),.int .u64 (xs 5)]:=by
  apply List.ext_getElem?;intro i
  match i with
  | 0=>rw[H];rfl
  | 1=>rw[I];rfl
  | 2=>rw[G];rfl
  | 3=>rw[v];rfl
  | 4=>rw[K];rfl
  | 5=>rw[z];rfl
  | k+6=>rw[List.getElem?_eq_none (by omega),List.getElem?_eq_none (by simp)]
 subst ecs;have b:=D.out.keep B;have F:=ai s.out B;have u0:=b.cell (i:=0) rfl;have f0:=b.free 0;have u1:=b.cell (i:=1) rfl;have f1:=b.free 1;have u2:=b.cell (i:=2) rfl;have f2:=b.free 2;have u3:=b.cell (i:=3) rfl;have f3:=b.free 3;have u4:=b.cell (i:=4) rfl;have f4:=b.free 4;have u5:=b.cell (i:=5) rfl;have f5:=b.free 5;have KB:=ah (show Blk ((((((j.setCell ⟨w.heap.size,0,none⟩ (.int .u64 (xs 0))).setCell ⟨w.heap.size,1,none⟩ (.int .u64 (xs 1))).setCell ⟨w.heap.size,2,none⟩ (.int .u64 (xs 2))).setCell ⟨w.heap.size,3,none⟩ (.int .u64 (xs 3))).setCell ⟨w.heap.size,4,none⟩ (.int .u64 (xs 4))).setCell ⟨w.heap.size,5,none⟩ (.int .u64 (xs 5))) w.heap.size [.int .u64 (xs 0),.int .u64 (xs 1),.int .u64 (xs 2),.int .u64 (xs 3),.int .u64 (xs 4),.int .u64 (xs 5)] 42 from((((((b.setCell (i:=0) (.int .u64 (xs 0))).setCell (i:=1) (.int .u64 (xs 1))).setCell (i:=2) (.int .u64 (xs 2))).setCell (i:=3) (.int .u64 (xs 3))).setCell (i:=4) (.int .u64 (xs 4))).setCell (i:=5) (.int .u64 (xs 5))));have t:=ah (show Chg (fun x=>x=w.heap.size) j ((((((j.setCell ⟨w.heap.size,0,none⟩ (.int .u64 (xs 0))).setCell ⟨w.heap.size,1,none⟩ (.int .u64 (xs 1))).setCell ⟨w.heap.size,2,none⟩ (.int .u64 (xs 2))).setCell ⟨w.heap.size,3,none⟩ (.int .u64 (xs 3))).setCell ⟨w.heap.size,4,none⟩ (.int .u64 (xs 4))).setCell ⟨w.heap.size,5,none⟩ (.int .u64 (xs 5))) from(((((((Chg.refl (fun x=>x=w.heap.size) j).cell (g:=w.heap.size) (i:=0) (.inl rfl) (.int .u64 (xs 0))).cell (g:=w.heap.size) (i:=1) (.inl rfl) (.int .u64 (xs 1))).cell (g:=w.heap.size) (i:=2) (.inl rfl) (.int .u64 (xs 2))).cell (g:=w.heap.size) (i:=3) (.inl rfl) (.int .u64 (xs 3))).cell (g:=w.heap.size) (i:=4) (.inl rfl) (.int .u64 (xs 4))).cell (g:=w.heap.size) (i:=5) (.inl rfl) (.int .u64 (xs 5))));have P:=ah (show gA w aM 6 mkA st (.returned (.tuple #[.agg #[.int .u64 (xs 0),.int .u64 (xs 1),.int .u64 (xs 2),.int .u64 (xs 3),.int .u64 (xs 4),.int .u64 (xs 5)],.int .i64 r])) ((((((j.setCell ⟨w.heap.size,0,none⟩ (.int .u64 (xs 0))).setCell ⟨w.heap.size,1,none⟩ (.int .u64 (xs 1))).setCell ⟨w.heap.size,2,none⟩ (.int .u64 (xs 2))).setCell ⟨w.heap.size,3,none⟩ (.int .u64 (xs 3))).setCell ⟨w.heap.size,4,none⟩ (.int .u64 (xs 4))).setCell ⟨w.heap.size,5,none⟩ (.int .u64 (xs 5))) from⟨⟨[.int .u64 (xs 0),.int .u64 (xs 1),.int .u64 (xs 2),.int .u64 (xs 3),.int .u64 (xs 4),.int .u64 (xs 5)],xs,r,rfl,rfl,(d.off t.out.size (fun y hy q=>t.out.same y q (fun e=>by have O:y=w.heap.size:=e;have:=M.out;omega))).low s.out.size,E,u⟩,((((((F.setCell (p:=⟨w.heap.size,0,none⟩) (Nat.le_refl _) (.int .u64 (xs 0))).setCell (p:=⟨w.heap.size,1,none⟩) (Nat.le_refl _) (.int .u64 (xs 1))).setCell (p:=⟨w.heap.size,2,none⟩) (Nat.le_refl _) (.int .u64 (xs 2))).setCell (p:=⟨w.heap.size,3,none⟩) (Nat.le_refl _) (.int .u64 (xs 3))).setCell (p:=⟨w.heap.size,4,none⟩) (Nat.le_refl _) (.int .u64 (xs 4))).setCell (p:=⟨w.heap.size,5,none⟩) (Nat.le_refl _) (.int .u64 (xs 5)))⟩);clear N d E u B b F L t D s H I G v K z;simp only[mkA];go_wp2;refine bodyPost_ret (fR rfl rfl rfl (gh (KB.out.cell (i:=0) rfl) (KB.out.cell (i:=1) rfl) (KB.out.cell (i:=2) rfl) (KB.out.cell (i:=3) rfl) (KB.out.cell (i:=4) rfl) (KB.out.cell (i:=5) rfl))) rfl ?_
 exact P.out
theorem sF{c d:Nat}{f:Int}(p:ef w a6 c d f)(m:c<=1000000) :
  Calls Tryz.prog 101 #[.agg #[.int .u64 x0,.int .u64 x1,.int .u64 x2,.int .u64 x3,.int .u64 x4,.int .u64 x5,.slice a6 c d]] w fun e w'=>∃ b n,e=.returned (.slice (some ⟨b,0,none⟩) n n)/\n=(thr (pnx (fun o=>([x0,x1,x2,x3,x4,x5,f]:List Int).getD o 0)) [(0,0),(0,1),(0,2),(0,3),(0,4),(0,5),(2,6)] []).length/\Box w' b ((thr (pnx (fun o=>([x0,x1,x2,x3,x4,x5,f]:List Int).getD o 0)) [(0,0),(0,1),(0,2),(0,3),(0,4),(0,5),(2,6)] []).map (Value.int .u8)) 5/\w.heap.size<=b/\Below w.heap.size w w':=by
 have j:=af w (.cells #[.int .u64 x0,.int .u64 x1,.int .u64 x2,.int .u64 x3,.int .u64 x4,.int .u64 x5,.slice a6 c d] 48);have U:=zY (p.keep j) m (x0:=x0) (x1:=x1) (x2:=x2) (x3:=x3) (x4:=x4) (x5:=x5) (w:=w.alloc (.cells #[.int .u64 x0,.int .u64 x1,.int .u64 x2,.int .u64 x3,.int .u64 x4,.int .u64 x5,.slice a6 c d] 48));have g:=ah j;generalize thr (pnx (fun o=>([x0,x1,x2,x3,x4,x5,f]:List Int).getD o 0)) [(0,0),(0,1),(0,2),(0,3),(0,4),(0,5),(2,6)] []=M at *;have l:=ah U;clear U;go_enter Tryz.func101,Tryz.ntmps101;go_wp2_with fail;refine l.out.mono ?_
 rintro r i ⟨b,n,rfl,hn,X,hb,B⟩;have q:=ah (show n=M.length/\Box i b (M.map (Value.int .u8)) 5/\w.heap.size<=b/\Below w.heap.size w i from⟨hn,X,Nat.le_trans g.out.size hb,ai g.out B⟩);clear hn X hb B l g;go_wp2;go_ret;exact⟨b,n,rfl,q.out⟩
theorem BN(A:ByA w bb ao n c l)(hn:n<=1000000000)(E:l.length=n) :
  Calls Tryz.prog 102 #[.slice ao n c] w (gA w bR 7 mkA (thr rnx [(0,0),(0,1),(0,2),(0,3),(0,4),(0,5),(2,6)] (0,l,fun _=>(0:Int)))):=by
 have q:=af w (.cells #[.int .u64 0,.int .u64 0,.int .u64 0,.int .u64 0,.int .u64 0,.int .u64 0,.slice none 0 0] 48);have s:=aj w [.int .u64 0,.int .u64 0,.int .u64 0,.int .u64 0,.int .u64 0,.int .u64 0,.slice none 0 0] 48;have z1:=bC w (.cells #[.int .u64 0,.int .u64 0,.int .u64 0,.int .u64 0,.int .u64 0,.int .u64 0,.slice none 0 0] 48);have U:=wT (A.keep q) hn E;generalize thr rnx [(0,0),(0,1),(0,2),(0,3),(0,4),(0,5),(2,6)] (0,l,fun _=>(0:Int))=st at *;obtain⟨M,m⟩:∃ M,Hid (w.alloc (.cells #[.int .u64 0,.int .u64 0,.int .u64 0,.int .u64 0,.int .u64 0,.int .u64 0,.slice none 0 0] 48)=M):=⟨_,rfl⟩
 rw[m.out] at q s z1 U;have O:=ah U;have u:=ah q;have F:=ah s;have P:=ah z1;clear A E q s z1 U;go_enter Tryz.func102,Tryz.ntmps102;go_wp2_with fail;rw[m.out];refine O.out.mono ?_
 rintro R o ⟨⟨cs,xs,r,rfl,Q,j,G,z⟩,B⟩;have J:=(j 0).1 rfl;have L:=(j 1).1 rfl;have I:=(j 2).1 rfl;have C:=(j 3).1 rfl;have N:=(j 4).1 rfl;have D:=(j 5).1 rfl;obtain⟨f,d,d6,K,-,-⟩:=(j 6).2.2 rfl
 have ecs:cs=[.int .u64 (xs 0),.int .u64 (xs 1),.int .u64 (xs 2),.int .u64 (xs 3),.int .u64 (xs 4),.int .u64 (xs 5),.slice f d d6]:=by
  apply List.ext_getElem?;intro i
  match i with
  | 0=>rw[J];rfl
  | 1=>rw[L];rfl
  | 2=>rw[I];rfl
  | 3=>rw[C];rfl
  | 4=>rw[N];rfl
  | 5=>rw[D];rfl
  | 6=>rw[K];rfl
  | k+7=>rw[List.getElem?_eq_none (by omega),List.getElem?_eq_none (by simp)]
 subst ecs;have b:=F.out.keep B;have H:=ai u.out B;have u0:=b.cell (i:=0) rfl;have f0:=b.free 0;have u1:=b.cell (i:=1) rfl;have f1:=b.free 1;have u2:=b.cell (i:=2) rfl;have f2:=b.free 2;have u3:=b.cell (i:=3) rfl;have f3:=b.free 3;have u4:=b.cell (i:=4) rfl;have f4:=b.free 4;have u5:=b.cell (i:=5) rfl;have f5:=b.free 5;have T:=b.cell (i:=6) rfl;have f6:=b.free 6;have KB:=ah (show Blk (((((((o.setCell ⟨w.heap.size,0,none⟩ (.int .u64 (xs 0))).setCell ⟨w.heap.size,1,none⟩ (.int .u64 (xs 1))).setCell ⟨w.heap.size,2,none⟩ (.int .u64 (xs 2))).setCell ⟨w.heap.size,3,none⟩ (.int .u64 (xs 3))).setCell ⟨w.heap.size,4,none⟩ (.int .u64 (xs 4))).setCell ⟨w.heap.size,5,none⟩ (.int .u64 (xs 5))).setCell ⟨w.heap.size,6,none⟩ (.slice f d d6)) w.heap.size [.int .u64 (xs 0),.int .u64 (xs 1),.int .u64 (xs 2),.int .u64 (xs 3),.int .u64 (xs 4),.int .u64 (xs 5),.slice f d d6] 48 from(((((((b.setCell (i:=0) (.int .u64 (xs 0))).setCell (i:=1) (.int .u64 (xs 1))).setCell (i:=2) (.int .u64 (xs 2))).setCell (i:=3) (.int .u64 (xs 3))).setCell (i:=4) (.int .u64 (xs 4))).setCell (i:=5) (.int .u64 (xs 5))).setCell (i:=6) (.slice f d d6)));have v:=ah (show Chg (fun x=>x=w.heap.size) o (((((((o.setCell ⟨w.heap.size,0,none⟩ (.int .u64 (xs 0))).setCell ⟨w.heap.size,1,none⟩ (.int .u64 (xs 1))).setCell ⟨w.heap.size,2,none⟩ (.int .u64 (xs 2))).setCell ⟨w.heap.size,3,none⟩ (.int .u64 (xs 3))).setCell ⟨w.heap.size,4,none⟩ (.int .u64 (xs 4))).setCell ⟨w.heap.size,5,none⟩ (.int .u64 (xs 5))).setCell ⟨w.heap.size,6,none⟩ (.slice f d d6)) from((((((((Chg.refl (fun x=>x=w.heap.size) o).cell (g:=w.heap.size) (i:=0) (.inl rfl) (.int .u64 (xs 0))).cell (g:=w.heap.size) (i:=1) (.inl rfl) (.int .u64 (xs 1))).cell (g:=w.heap.size) (i:=2) (.inl rfl) (.int .u64 (xs 2))).cell (g:=w.heap.size) (i:=3) (.inl rfl) (.int .u64 (xs 3))).cell (g:=w.heap.size) (i:=4) (.inl rfl) (.int .u64 (xs 4))).cell (g:=w.heap.size) (i:=5) (.inl rfl) (.int .u64 (xs 5))).cell (g:=w.heap.size) (i:=6) (.inl rfl) (.slice f d d6)));have S:=ah (show gA w bR 7 mkA st (.returned (.tuple #[.agg #[.int .u64 (xs 0),.int .u64 (xs 1),.int .u64 (xs 2),.int .u64 (xs 3),.int .u64 (xs 4),.int .u64 (xs 5),.slice f d d6],.int .i64 r])) (((((((o.setCell ⟨w.heap.size,0,none⟩ (.int .u64 (xs 0))).setCell ⟨w.heap.size,1,none⟩ (.int .u64 (xs 1))).setCell ⟨w.heap.size,2,none⟩ (.int .u64 (xs 2))).setCell ⟨w.heap.size,3,none⟩ (.int .u64 (xs 3))).setCell ⟨w.heap.size,4,none⟩ (.int .u64 (xs 4))).setCell ⟨w.heap.size,5,none⟩ (.int .u64 (xs 5))).setCell ⟨w.heap.size,6,none⟩ (.slice f d d6)) from⟨⟨[.int .u64 (xs 0),.int .u64 (xs 1),.int .u64 (xs 2),.int .u64 (xs 3),.int .u64 (xs 4),.int .u64 (xs 5),.slice f d d6],xs,r,rfl,rfl,(j.off v.out.size (fun y hy t=>v.out.same y t (fun e=>by have R:y=w.heap.size:=e;have:=P.out;omega))).low u.out.size,G,z⟩,(((((((H.setCell (p:=⟨w.heap.size,0,none⟩) (Nat.le_refl _) (.int .u64 (xs 0))).setCell (p:=⟨w.heap.size,1,none⟩) (Nat.le_refl _) (.int .u64 (xs 1))).setCell (p:=⟨w.heap.size,2,none⟩) (Nat.le_refl _) (.int .u64 (xs 2))).setCell (p:=⟨w.heap.size,3,none⟩) (Nat.le_refl _) (.int .u64 (xs 3))).setCell (p:=⟨w.heap.size,4,none⟩) (Nat.le_refl _) (.int .u64 (xs 4))).setCell (p:=⟨w.heap.size,5,none⟩) (Nat.le_refl _) (.int .u64 (xs 5))).setCell (p:=⟨w.heap.size,6,none⟩) (Nat.le_refl _) (.slice f d d6))⟩);clear Q j G z B b H O v F u J L I C N D K;simp only[mkA];go_wp2;refine bodyPost_ret (fR rfl rfl rfl (ra (KB.out.cell (i:=0) rfl) (KB.out.cell (i:=1) rfl) (KB.out.cell (i:=2) rfl) (KB.out.cell (i:=3) rfl) (KB.out.cell (i:=4) rfl) (KB.out.cell (i:=5) rfl) (KB.out.cell (i:=6) rfl))) rfl ?_
 exact S.out
theorem nZ :
  Calls Tryz.prog 93 #[.int .u64 x0] w fun e w'=>∃ b n,e=.returned (.slice (some ⟨b,0,none⟩) n n)/\n=(thr (pnx (fun o=>([x0]:List Int).getD o 0)) [(0,0)] []).length/\Box w' b ((thr (pnx (fun o=>([x0]:List Int).getD o 0)) [(0,0)] []).map (Value.int .u8)) 5/\w.heap.size<=b/\Below w.heap.size w w':=by
 have U:=tu (x0:=x0) (w:=w);have c:=ah (Below.refl w.heap.size w);generalize thr (pnx (fun o=>([x0]:List Int).getD o 0)) [(0,0)] []=M at *;have f:=ah U;clear U;go_enter Tryz.func93,Tryz.ntmps93;go_wp2_with fail;refine f.out.mono ?_
 rintro i d ⟨b,n,rfl,hn,X,hb,B⟩;have g:=ah (show n=M.length/\Box d b (M.map (Value.int .u8)) 5/\w.heap.size<=b/\Below w.heap.size w d from⟨hn,X,Nat.le_trans c.out.size hb,ai c.out B⟩);clear hn X hb B f c;go_wp2;go_ret;exact⟨b,n,rfl,g.out⟩
theorem ua(A:ByA w bb ao n c l)(hn:n<=1000000000)(g:l.length=n) :
  Calls Tryz.prog 65 #[.slice ao n c] w (gA w bg 1 mkO (thr rnx [(0,0)] (0,l,fun _=>(0:Int)))):=by
 have U:=rW A hn g;generalize thr rnx [(0,0)] (0,l,fun _=>(0:Int))=st at *;clear A g;go_enter Tryz.func65,Tryz.ntmps65;go_wp2_with fail;refine U.mono ?_
 rintro q m ⟨⟨cs,xs,r,rfl,o,b,j,f⟩,B⟩;have d:=(b 0).1 rfl
 have ecs:cs=[.int .u64 (xs 0)]:=by
  apply List.ext_getElem?;intro i
  match i with
  | 0=>rw[d];rfl
  | k+1=>rw[List.getElem?_eq_none (by omega),List.getElem?_eq_none (by simp)]
 subst ecs;have p:=ah (show gA w bg 1 mkO st (.returned (.tuple #[.int .u64 (xs 0),.int .i64 r])) m from⟨⟨[.int .u64 (xs 0)],xs,r,rfl,rfl,b,j,f⟩,B⟩);clear o b j f B d U;simp only[mkO,List.headD_cons];go_wp2;go_ret2;exact p.out
end
end Rc
end
section
open Go.RowKit Lim
structure Stp where
 what:Int
 num:Int
 na:Option Addr
 nn:Nat
 nc:Nat
 V:Int
 ba:Option Addr
 bn:Nat
 bc:Nat
 bb:Nat
 bl:List Int
 most:Int
section
variable {l L:List Int}{m:Nat}{w:World}{ao:Option Addr}
theorem EJ(h:aZ l):be l.length (bp l)=l:=by
 refine mn (dE _ _) h (aD _ _) ?_
 have hb:=bG h;rw[pL _ hb.1,Int.emod_eq_of_lt hb.1 hb.2]
theorem fV(h:aZ l)(hm:m<=l.length):be m (bp (l.take m))=l.take m:=by
 have:=EJ (l:=l.take m) (fun x hx=>h x (List.mem_of_mem_take hx));rwa [List.length_take,Nat.min_eq_left hm] at this
def One(err':Int)(L L':List Int)(laid:List Int->Prop):Prop:=(err'≠0/\L'=L)\/(err'=0/\∃ k,k<=L.length/\laid (L.take k)/\L'=L.drop k)
theorem Dp(h:aZ L)(m:Nat):One (rdE (bN m L) 0) L (rdL (bN m L) 0 L) (fun t=>be m (rdV 0 (bN m L) 0)=t):=by
 by_cases hm:m<=L.length
 ·have e:bN m L=.inr (bp (L.take m),m):=by unfold bN; rw[if_pos hm]
  rw[e];exact .inr ⟨rfl,m,hm,fV h hm,rfl⟩
 ·have e:bN m L=.inl 40:=by unfold bN; rw[if_neg hm]
  rw[e];exact .inl ⟨by decide,rfl⟩
theorem Cc(h:aZ L):One (rdE (aX L) 0) L (rdL (aX L) 0 L) (fun t=>be 1 (if rdV false (aX L) 0 then 1 else 0)=t):=by
 by_cases hm:1<=L.length
 ·by_cases hx:1 < bp (L.take 1)
  ·have e:aX L=.inl 41:=by unfold aX; rw[if_pos hm,if_pos hx]
   rw[e];exact .inl ⟨by decide,rfl⟩
  ·have e:aX L=.inr (bp (L.take 1) == 1,1):=by unfold aX; rw[if_pos hm,if_neg hx]
   rw[e];refine .inr ⟨rfl,1,hm,?_,rfl⟩;have a:=fV h hm;have c:=(bG (l:=L.take 1) (fun x hx=>h x (List.mem_of_mem_take hx))).1
   show be 1 (if (bp (L.take 1) == 1)=true then 1 else 0)=L.take 1
   generalize L.take 1=M at *;by_cases b:bp M=1
   ·rw[b] at a ⊢;exact a
   ·rw[show bp M=0 by omega] at a ⊢;exact a
 ·have e:aX L=.inl 40:=by unfold aX; rw[if_neg hm]
  rw[e];exact .inl ⟨by decide,rfl⟩
theorem gM(h:aZ L):((aR m L:Nat):Int)=bp (L.take m):=by
 unfold aR;rw[Int.toNat_of_nonneg (bG (fun x hx=>h x (List.mem_of_mem_take hx))).1]
theorem Dr(h:aZ L)(hm:m<=L.length)(hc:m+aR m L<=L.length):dz m ((L.drop m).take (aR m L))=L.take (m+aR m L):=by
 unfold dz
 have e:(((L.drop m).take (aR m L)).length:Int)=bp (L.take m):=by
  rw[List.length_take,List.length_drop,Nat.min_eq_left (by omega)];exact gM h
 rw[e,fV h hm,List.take_add]
theorem D5(h:aZ L):One (rdE (aY L) 0) L (rdL (aY L) 0 L) (fun t=>ff (rdV 0 (aY L) 0) 0=0/\∀ K,fN (rdV 0 (aY L) 0) 0 K=K ++ t):=by
 by_cases hm:1<=L.length
 ·by_cases hc:1+aR 1 L<=L.length
  ·by_cases f:0 < aR 1 L/\nth (L.drop 1) 0=0
   ·have e:aY L=.inl 41:=by unfold aY; rw[if_pos hm,if_pos hc,if_pos f]
    rw[e];exact .inl ⟨by decide,rfl⟩
   ·have e:aY L=.inr (bp ((L.drop 1).take (aR 1 L)),1 + aR 1 L):=by unfold aY; rw[if_pos hm,if_pos hc,if_neg f]
    have g:=Dr h hm hc
    have i:((aR 1 L:Nat):Int) < 256:=by
     have:=(bG (l:=L.take 1) (fun x hx=>h x (List.mem_of_mem_take hx))).2;rw[List.length_take,Nat.min_eq_left hm] at this;rw[gM h];simpa using this
    have a:aZ ((L.drop 1).take (aR 1 L)):=fun x hx=>h x (List.mem_of_mem_drop (List.mem_of_mem_take hx))
    have hlen:((L.drop 1).take (aR 1 L)).length=aR 1 L:=by rw[List.length_take,List.length_drop];omega
    have j:cW (bp ((L.drop 1).take (aR 1 L)))=(L.drop 1).take (aR 1 L):=eG (bG a).1 ⟨a,fun d=>by
     have b:0 < aR 1 L:=by
      rcases Nat.eq_zero_or_pos (aR 1 L) with c | c
      ·exact absurd (by rw[c];simp) d
      ·exact c
     rw[dw b]
     exact fun c=>f ⟨b,c⟩,rfl⟩
    rw[e];refine .inr ⟨rfl,_,hc,?_,rfl⟩
    show ff (bp ((L.drop 1).take (aR 1 L))) 0=0/\∀ K,fN (bp ((L.drop 1).take (aR 1 L))) 0 K=K ++ L.take (1+aR 1 L)
    unfold ff fN;rw[j,if_pos (by omega)];refine⟨rfl,fun K=>?_⟩;rw[if_pos (by omega),g];rfl
  ·have e:aY L=.inl 40:=by unfold aY; rw[if_pos hm,if_neg hc]
   rw[e];exact .inl ⟨by decide,rfl⟩
 ·have e:aY L=.inl 40:=by unfold aY; rw[if_neg hm]
  rw[e];exact .inl ⟨by decide,rfl⟩
theorem ByA.front2{b:Nat}{n c:Nat}(h:ByA w b ao n c l){k:Nat}(j:k<=n):ByA w b ao k c (l.take k):=by
 obtain⟨o,m,g,d,f,a⟩:=h.ex;refine⟨o,by rw[List.length_take];omega,by omega,d,fun x hx=>f x (List.mem_of_mem_take hx),?_,fun i hi=>?_⟩
 ·rcases a.loc with e | e
  ·exact .inl (by rw[e];simp)
  ·exact .inr e
 ·rw[List.length_take] at hi;rw[a.cell i (by omega),dw (by omega)]
end
end
section
namespace Rc
open Go.RowKit Go.Lib Pg Lim
section
variable {l r:List Int}{m:Nat}{x:Int}
theorem mH(m:Nat)(l:List Int):(dz m l).length=m+l.length:=by
 unfold dz;rw[List.length_append,aD]
theorem hH(h:l.length=m):(l ++ r).take m=l/\(l ++ r).drop m=r:=by
 subst h;exact⟨List.take_left,List.drop_left⟩
theorem Aw(m:Nat)(hx:0<=x)(r:List Int):bN m (be m x ++ r)=.inr (x % 256 ^ m,m)/\(be m x ++ r).drop m=r:=by
 have h:=hH (r:=r) (aD m x);refine⟨?_,h.2⟩;unfold bN;rw[if_pos (by rw[List.length_append,aD];omega),h.1,pL m hx]
theorem qq(hl:(l.length:Int) < 256 ^ m):aR m (dz m l ++ r)=l.length:=by
 unfold aR dz;rw[List.append_assoc,(hH (aD m _)).1,pL m (by omega),Int.emod_eq_of_lt (by omega) hl];rfl
theorem zp(m:Nat)(l r:List Int):(dz m l ++ r).drop m=l ++ r:=by
 unfold dz;rw[List.append_assoc,(hH (aD m _)).2]
theorem Aj{V:Int}(g:0<=V)(h:(cW V).length < 256)(r:List Int):aY (dz 1 (cW V) ++ r)=.inr (V,1+(cW V).length)/\(dz 1 (cW V) ++ r).drop (1+(cW V).length)=r:=by
 have hc:aR 1 (dz 1 (cW V) ++ r)=(cW V).length:=qq (by simpa using (by omega:((cW V).length:Int) < 256));have b:=zp 1 (cW V) r;have d:=pK g;refine⟨?_,?_⟩
 ·unfold aY;rw[if_pos (by rw[List.length_append,mH];omega),hc,if_pos (by rw[List.length_append,mH];omega),b,if_neg,(hH rfl).1,d.2.2];rintro⟨c,f⟩
  have a:cW V≠[]:=fun e=>by rw[e] at c;simp at c
  refine d.2.1 a ?_
  rw[<- f]
  cases hh:cW V with
  | nil=>exact absurd hh a
  | cons x t=>rfl
 ·rw[<- List.drop_drop,b,(hH rfl).2]
theorem yu(x:Bool)(r:List Int):aX (be 1 (if x then 1 else 0) ++ r)=.inr (x,1)/\(be 1 (if x then 1 else 0) ++ r).drop 1=r:=by
 cases x
 ·exact⟨rfl,rfl⟩
 ·exact⟨rfl,rfl⟩
theorem one1(h:aZ l)(k:Nat)(he:rdE (p1 k l) 0=0):dO k (rdV 0 (p1 k l) 0) ++ rdL (p1 k l) 0 l=l/\∃ m,rdL (p1 k l) 0 l=l.drop m:=by
 match k with
 | 0 =>
  rcases Dp h 8 with⟨h1,_⟩ | ⟨_,m,h2,h3,h4⟩
  ·exact absurd he h1
  ·show be 8 (rdV 0 (bN 8 l) 0) ++ rdL (bN 8 l) 0 l=l/\∃ m,rdL (bN 8 l) 0 l=l.drop m
   rw[h3,h4];exact⟨List.take_append_drop m l,m,rfl⟩
 | 1 =>
  have a:rdE (aX l) 0=0:=by rw[<- gX];exact he
  rcases Cc h with⟨h1,_⟩ | ⟨_,m,h2,h3,h4⟩
  ·exact absurd a h1
  ·show be 1 (rdV 0 (dc l) 0) ++ rdL (dc l) 0 l=l/\∃ m,rdL (dc l) 0 l=l.drop m
   rw[gH,gL,h3,h4];exact⟨List.take_append_drop m l,m,rfl⟩
 | k + 2 =>
  rcases D5 h with⟨h1,_⟩ | ⟨_,m,h2,⟨h3,h5⟩,h4⟩
  ·exact absurd he h1
  ·show dz 1 (cW (fit (rdV 0 (aY l) 0))) ++ rdL (aY l) 0 l=l/\∃ m,rdL (aY l) 0 l=l.drop m
   have hf:(cW (rdV 0 (aY l) 0)).length < 256:=by
    unfold ff at h3;split at h3
    ·assumption
    ·exact absurd h3 (by decide)
   have e:=h5 [];unfold fN wrote at e;rw[if_pos hf,if_pos rfl] at e;unfold fit;rw[if_pos hf];simp only[List.nil_append] at e;rw[e,h4];exact⟨List.take_append_drop m l,m,rfl⟩
theorem dH{σ:Type}(nx:Nat->Nat->σ->σ)(p:Nat × Nat)(ks:List (Nat × Nat))(s:σ):thr nx (p :: ks) s=thr nx ks (nx p.1 p.2 s):=rfl
theorem Ec(a:List (Nat × Nat)):∀ s:RSt,s.1≠0->(thr rnx a s).1=s.1:=by
 induction a with
 | nil=>intro s _;rfl
 | cons p a ih =>
  intro s b
  have e:(rnx p.1 p.2 s).1=s.1:=js b;rw[dH,ih _ (by rw[e];exact b),e]
theorem xj(a:List (Nat × Nat))(o:Nat):∀ s:RSt,o ∉ a.map Prod.snd->(thr rnx a s).2.2 o=s.2.2 o:=by
 induction a with
 | nil=>intro s _;rfl
 | cons p a ih =>
  intro s b;rw[List.map_cons,List.mem_cons,not_or] at b;rw[dH,ih _ b.2]
  show (if o=p.2 then _ else _)=_
  rw[if_neg b.1]
theorem sv(h:aZ l)(m:Nat):aZ (l.drop m):=fun x hx=>h x (List.mem_of_mem_drop hx)
theorem Ew(a:List (Nat × Nat)):∀ (l:List Int) (xs:Nat->Int),aZ l->(a.map Prod.snd).Nodup->(thr rnx a (0,l,xs)).1=0->∀ L,thr (pnx (thr rnx a (0,l,xs)).2.2) a L ++ (thr rnx a (0,l,xs)).2.1=L ++ l:=by
 induction a with
 | nil=>intro l xs _ _ _ L;rfl
 | cons p a ih =>
  intro l xs e b he L;rw[List.map_cons,List.nodup_cons] at b;rw[dH] at he
  have e1:rdE (p1 p.1 l) 0=0:=by
   by_cases d:rdE (p1 p.1 l) 0=0
   ·exact d
   ·exact absurd ((Ec a (rnx p.1 p.2 (0,l,xs)) d).symm.trans he) d
  obtain⟨h,m,g⟩:=one1 e p.1 e1
  have es:rnx p.1 p.2 (0,l,xs)=(0,rdL (p1 p.1 l) 0 l,fun i=>if i=p.2 then rdV 0 (p1 p.1 l) 0 else xs i):=by
   show (rdE (p1 p.1 l) 0,_,_)=_
   rw[e1]
  have f:thr rnx (p :: a) (0,l,xs)=thr rnx a (0,rdL (p1 p.1 l) 0 l,fun i=>if i=p.2 then rdV 0 (p1 p.1 l) 0 else xs i):=by rw[dH,es]
  rw[es] at he;rw[f]
  have c:=ih _ _ (by rw[g];exact sv e m) b.2 he;rw[dH,c]
  have ev:(thr rnx a (0,rdL (p1 p.1 l) 0 l,fun i=>if i=p.2 then rdV 0 (p1 p.1 l) 0 else xs i)).2.2 p.2=rdV 0 (p1 p.1 l) 0:=by
   rw[xj a p.2 _ b.1]
   show (if p.2=p.2 then _ else _)=_
   rw[if_pos rfl]
  show (L ++ dO p.1 _) ++ _=L ++ l
  rw[ev,List.append_assoc,h]
def rng:Nat->Int->Prop
 | 0,x=>0<=x/\x < 18446744073709551616
 | 1,x=>x=0\/x=1
 | _,x=>0<=x
def fitk:Nat->Int->Int
 | 0,x=>x
 | 1,x=>x
 | _,x=>fit x
theorem back1(k:Nat)(hx:rng k x)(r:List Int):∃ m,p1 k (dO k x ++ r)=.inr (fitk k x,m)/\(dO k x ++ r).drop m=r:=by
 match k,hx with
 | 0,hx =>
  obtain⟨b,a⟩:=Aw 8 hx.1 r;refine⟨8,?_,a⟩
  show bN 8 (be 8 x ++ r)=_
  rw[b,Int.emod_eq_of_lt hx.1 (by have:=hx.2;simpa using this)];rfl
 | 1,hx =>
  have key:∀ t:Bool,∃ m,dc (be 1 (if t then 1 else 0) ++ r)=.inr ((if t then 1 else 0),m)/\(be 1 (if t then 1 else 0) ++ r).drop m=r:=fun t=>by
   obtain⟨b,a⟩:=yu t r;refine⟨1,?_,a⟩;unfold dc;rw[b]
  rcases hx with rfl | rfl
  ·exact key false
  ·exact key true
 | k + 2,hx =>
  have c:0<=fit x:=by
   unfold fit;split
   ·exact hx
   ·decide
  obtain⟨b,a⟩:=Aj c (dS x) r;exact⟨_,b,a⟩
theorem jg(b:Nat->Int)(a:List (Nat × Nat)):∀ (r:List Int) (xs:Nat->Int),(a.map Prod.snd).Nodup->(∀ p∈a,rng p.1 (b p.2))->∃ ys,thr rnx a (0,thr (pnx b) a [] ++ r,xs)=(0,r,ys)/\(∀ p∈a,ys p.2=fitk p.1 (b p.2))/\∀ o,o ∉ a.map Prod.snd->ys o=xs o:=by
 have h:∀ (a:List (Nat × Nat)) (L:List Int),thr (pnx b) a L=L ++ thr (pnx b) a []:=by
  intro a
  induction a with
  | nil=>intro L;simp[thr]
  | cons p a ih =>
   intro L;rw[dH,dH,ih (pnx b p.1 p.2 L),ih (pnx b p.1 p.2 [])];simp[pnx,List.append_assoc]
 induction a with
 | nil=>exact fun r xs _ _=>⟨xs,rfl,(fun p k=>by cases k),fun _ _=>rfl⟩
 | cons p a ih =>
  intro r xs c f;rw[List.map_cons,List.nodup_cons] at c;obtain⟨m,j,g⟩:=back1 p.1 (f p List.mem_cons_self) (thr (pnx b) a [] ++ r)
  have el:thr (pnx b) (p :: a) [] ++ r=dO p.1 (b p.2) ++ (thr (pnx b) a [] ++ r):=by
   rw[dH,h];simp[pnx,List.append_assoc]
  rw[el,dH]
  have es:rnx p.1 p.2 (0,dO p.1 (b p.2) ++ (thr (pnx b) a [] ++ r),xs)=(0,thr (pnx b) a [] ++ r,fun i=>if i=p.2 then fitk p.1 (b p.2) else xs i):=by
   show (rdE (p1 p.1 _) 0,rdL (p1 p.1 _) 0 _,fun i=>if i=p.2 then rdV 0 (p1 p.1 _) 0 else xs i)=_
   rw[j]
   show (_,List.drop m _,_)=_
   rw[g];rfl
  rw[es];obtain⟨ys,e1,e2,e3⟩:=ih r _ c.2 (fun q d=>f q (List.mem_cons_of_mem _ d));refine⟨ys,e1,fun q d=>?_,fun o e=>?_⟩
  ·rcases List.mem_cons.1 d with rfl | d
   ·rw[e3 _ c.1]
    show (if q.2=q.2 then _ else _)=_
    rw[if_pos rfl]
   ·exact e2 q d
  ·rw[List.map_cons,List.mem_cons,not_or] at e;rw[e3 o e.2]
   show (if o=p.2 then _ else _)=_
   rw[if_neg e.1]
end
end Rc
end
section
namespace Rc
open Go.RowKit Go.Lib Pg
attribute [local go_sem] Oper.semAt_some
theorem AO (k:Nat) (x:Int):aZ (dO k x):=by
 unfold dO;split
 ·exact dE _ _
 ·exact dE _ _
 ·intro y hy;rcases List.mem_append.1 hy with h | h
  ·exact dE _ _ y h
  ·exact rR _ y h
theorem l3 (xs:Nat->Int) (a:List (Nat × Nat)):∀ L,aZ L->aZ (thr (pnx xs) a L):=by
 induction a with
 | nil=>exact fun _ h=>h
 | cons p a ih =>
  intro L h;rw[dH];refine ih _ ?_
  intro y hy;rcases List.mem_append.1 hy with b | b
  ·exact h y b
  ·exact AO _ _ y b
end Rc
end
section
open Go.RowKit Lim
def stB (s:Stp):Option (List Int) :=
 if s.what=0 then some (be 1 (s.num % 256))
 else if s.what=1 then some (be 4 (s.num % 4294967296))
 else if s.what=2 then some (be 8 s.num)
 else if s.what=3 then some (be 1 (if s.num % 2 == 1 then 1 else 0))
 else if s.what=4\/s.what=5 then (if (cW s.V).length < 256 then some (dz 1 (cW s.V)) else none)
 else if s.what=6 then some (dz 4 s.bl)
 else some []
def stO (s:Stp) (o:Option (List Int)):Option (List Int):=o.bind fun L=>(stB s).map (L ++ ·)
def laid (ss:List Stp):Option (List Int):=ss.foldl (fun o s=>stO s o) (some [])
section
variable {w:World}{B:Nat}{v:Value}{l:List Int}{V:Int}
theorem bz.shape(h:bz w B v l):∃ ao c,v=.slice ao l.length c:=by
 rcases h.2 with⟨rfl,h0⟩ | ⟨g,cap,cur,rfl,_⟩
 ·exact⟨none,0,by rw[h0]⟩
 ·exact⟨_,_,rfl⟩
theorem yw{B':Nat}(h:bz w B v l)(hB:B'<=B):bz w B' v l:=by
 obtain⟨h1,h2⟩:=h;refine⟨h1,?_⟩;rcases h2 with h2 | ⟨g,cap,cur,rfl,hB1,hr⟩
 ·exact .inl h2
 ·exact .inr ⟨g,cap,cur,rfl,by omega,hr⟩
theorem xR(l:List Int)(c:Int):bp (l ++ [c])=256 * bp l+c:=by
 induction l with
 | nil=>simp[bp]
 | cons x l ih=>simp only[List.cons_append,bp,ih,List.length_append,List.length_singleton,Int.pow_succ];grind
theorem IsB.snoc{c:Int}(h:IsB l V)(b:0<=c)(d:c < 256)(a:l≠[]\/c≠0):IsB (l ++ [c]) (256 * V+c):=by
 refine⟨fun x hx=>?_,fun _=>?_,by rw[xR,h.2.2]⟩
 ·rcases List.mem_append.1 hx with e | e
  ·exact h.1 x e
  ·simp at e;subst e;exact⟨b,d⟩
 ·cases l with
  | nil =>
   rcases a with e | e
   ·exact absurd rfl e
   ·rw[List.nil_append,de];exact e
  | cons y l=>rw[List.cons_append,de];have:=h.2.1 (by simp);rwa [de] at this
theorem IsB.zero(h:IsB l V)(hl:l=[]):IsB l (256 * V+0):=by
 subst hl;have:=h.2.2;simp[bp] at this;subst this;exact⟨h.1,h.2.1,rfl⟩
theorem BJ{i:Nat}(h:i < l.length):v32 (l.drop i)=nth l i+4294967296 * v32 (l.drop (i+1)):=by
 rw[List.drop_eq_getElem_cons h,v32,da h]
theorem xA(V x:Int)(j:Nat)(a:j < 4):256 * (V * 256 ^ j+x / 2 ^ (32 - 8 * j))+x / 2 ^ (24 - 8 * j) % 256=V * 256 ^ (j+1)+x / 2 ^ (32 - 8 * (j+1)):=by
 have e:x / 2 ^ (32 - 8 * j)=x / 2 ^ (24 - 8 * j) / 256:=by
  rw[Int.ediv_ediv_of_nonneg (Int.le_of_lt (Int.pow_pos (by decide))),show (256:Int)=2 ^ 8 from rfl,<- Int.pow_add,show 24 - 8 * j+8=32 - 8 * j from by omega]
 rw[e,show 32 - 8 * (j+1)=24 - 8 * j from by omega,Int.pow_succ];generalize x / 2 ^ (24 - 8 * j)=y;have:V * (256 ^ j * 256)=256 * (V * 256 ^ j):=by grind
 omega
theorem jH(ao:Option Addr)(n c b o:Nat)(l:List Int)(w:World)(hl:l.length=n)(hbig:n<=274877906944)(wl:Words l)(ha:At w ao b o l) :
  Calls Tryz.prog 151 #[.slice ao n c] w fun e w'=>∃ v r,e=.returned v/\bz w' w.heap.size v r/\IsB r (val l)/\r.length<=8 * n/\Below w.heap.size w w':=by
 obtain⟨i0,hi0,T,hz1,Y⟩:=info_parts iu;go_enter Tryz.func151,Tryz.ntmps151;go_wp2_with fail;refine(mC ao n c b o l w hl hbig wl ha).mono ?_
 rintro e A ⟨v,d,rfl,R,hd,S,Z,hdl,hb1⟩;obtain⟨ad,bd,od,cd,rfl,hcd,_,O,_⟩:=R.is;have I:=hb1.size;have HDV:=(show Hid _ from Z)
 have HDN:=(show Hid _ from S)
 clear Z S R;obtain⟨N,hN⟩:∃ N,d.length=N:=⟨_,rfl⟩
 have HN:=(show Hid _ from hN)
 rw[hN] at hcd hdl ⊢;clear hN;go_wp2_with fail;go_loopw [4,5] (fun tz ti wr=>∃ (m:Nat) (r:List Int),m<=N/\ti=.int .i64 ((m:Int) - 1)/\bz wr A.heap.size tz r/\IsB r (v32 (d.drop m))/\r.length<=4 * (N - m)/\Below A.heap.size A wr) (fun _ ti _=>(intOf ti+1).toNat)
 case atStart=>exact⟨N,[],Nat.le_refl _,rfl,World.ownsRow_nil _ _ _ _,⟨fun x hx=>by simp at hx,fun h=>absurd rfl h,by rw[List.drop_of_length_le (by rw[HN.out];exact Nat.le_refl _)];rfl⟩,by simp,Below.refl _ _⟩
 case round =>
  obtain⟨m,r,hm,rfl,f,g,W,q⟩:=hrel;by_cases hlt:0 < m
  ·obtain⟨i,rfl⟩:∃ i,m=i+1:=⟨m - 1,by omega⟩
   rcases O.loc with e | rfl
   ·subst e;have:=HN.out;simp at this;omega
   have hii:((i+1:Nat):Int) - 1=i:=by omega
   rw[hii]
   have hi1:(i:Int) < N:=by omega
   have hx:=hd.nth i;have hlb:=aH (O.cell i (by rw[HN.out];omega))
   have HV:Hid (v32 (d.drop i)=nth d i+4294967296 * v32 (d.drop (i+1))):=BJ (by rw[HN.out];omega)
   have HC:Hid (∀ wz,Below A.heap.size A wz->wz.cell? ⟨bd,od + i,none⟩=some (.int .u64 (nth d i))):=fun wz hz=>by
    rw[hz.cell (p:=⟨bd,od+i,none⟩) hlb];exact O.cell i (by rw[HN.out];omega)
   generalize v32 (d.drop (i+1))=V at *;generalize nth d i=x at *;go_wp2_with fail;go_loopw [4,6] (fun tz tk wr=>∃ (j:Nat) (r:List Int),j<=4/\tk=.int .i64 (24 - 8 * (j:Int))/\bz wr A.heap.size tz r/\IsB r (V * 256 ^ j+x / 2 ^ (32 - 8 * j))/\r.length<=4 * (N - (i+1))+j/\Below A.heap.size A wr) (fun _ tk _=>(intOf tk+8).toNat)
   case atStart=>exact⟨0,r,by decide,rfl,f,by rw[show x / 2 ^ (32 - 8 * 0)=0 from Int.ediv_eq_zero_of_lt hx.1 hx.2];simpa using g,by omega,q⟩
   case round =>
    clear f g W q;obtain⟨j,r,hj,rfl,f,g,W,q⟩:=hrel;obtain⟨az,cz,rfl⟩:=f.shape;by_cases hj4:j < 4
    ·obtain⟨sh,hsh⟩:∃ sh:Nat,(24:Int) - 8 * j=sh:=⟨24 - 8 * j,by omega⟩
     have G:24 - 8 * j=sh:=by omega
     have L:=xA V x j hj4;rw[G] at L;have H:=(show Hid _ from L)
     have HSH:=(show Hid _ from G)
     clear L G;have M:=Int.emod_nonneg (x / 2 ^ sh) (show (256:Int)≠0 by decide);have P:=Int.emod_lt_of_pos (x / 2 ^ sh) (show (0:Int) < 256 by decide);have hcell:=HC.out wr q;have hszr:=q.size
     have hsh64:sh<=24:=by have:=HSH.out;omega
     obtain⟨C,hC⟩:∃ C,x / 2 ^ sh % 256=C:=⟨_,rfl⟩
     rw[hC] at M P H;by_cases z:r=[]/\C=0
     ·obtain⟨rfl,rfl⟩:=z;have Q:=g.zero rfl;rw[H.out] at Q;have y:=(show Hid _ from Q)
      clear Q;go_wp2;go_roundw
      case rel=>exact⟨j+1,[],by omega,by rw[show (24 - 8 * ((j+1:Nat):Int))=(sh:Int) - 8 from by omega],f,y.out,by simp,q⟩
      case measure=>simp[intOf];omega
     ·by_cases E:r=[]
      ·have U:C≠0:=fun e=>z ⟨E,e⟩
       have hCb:(C != 0)=true:=by rw[bne_iff_ne];exact U
       have J:r.length=0:=by rw[E];rfl
       have B:wr.ownsRow A.heap.size 5 1 (.slice az r.length cz) r.length (r.map (Value.int .u8)):=f
       have hnn:r.length<=4398046511104:=by omega
       have D:=g.snoc (c:=C) M P (.inr U);rw[H.out] at D;have y:=(show Hid _ from D)
       clear D;generalize hRL:r.length=RL at *;have F:=(show Hid _ from hRL)
       clear hRL
       have hRL0:RL<=0:=by have:=J;omega
       clear J E z;go_wp2_with (at_builtin;refine wpList_append_own _ rfl _ _ 36 rfl A.heap.size 5 i0 (.int .u8 0) 1 1 bW hi0 T hz1 Y rfl (by decide) _ _ _ rfl (B.alloc _) ⟨wr.heap.size,0,none⟩ 1 1 [.int .u8 C] rfl rfl ?ca1 ?ca2 ?ca3 ?ca4 ?ca5 ?_)
       case ca1=>exact cell_one_new _ _ _
       case ca2=>intro u hu;simp at hu;subst hu;rfl
       case ca3=>unfold maxLen;omega
       case ca4=>omega
       case ca5=>simp;omega
       intro v' w2 t s _
       have X:bz w2 A.heap.size v' (r ++ [C]):=by
        unfold bz;rw[List.length_append,F.out,List.map_append];exact t
       have HB:Below A.heap.size A w2:=(q.alloc (by omega) _).grown s (by simp;omega) (ve f)
       have K:(r ++ [C]).length<=4 * (N - (i+1))+(j+1):=by rw[List.length_append,F.out];simp;omega
       clear t s B f q g;go_wp2;go_roundw
       case rel=>exact⟨j+1,r ++ [C],by omega,by rw[show (24 - 8 * ((j+1:Nat):Int))=(sh:Int) - 8 from by omega],X,y.out,K,HB⟩
       case measure=>simp[intOf];omega
      ·have hrp:0 < r.length:=Nat.pos_of_ne_zero fun e=>E (List.eq_nil_of_length_eq_zero e)
       have B:wr.ownsRow A.heap.size 5 1 (.slice az r.length cz) r.length (r.map (Value.int .u8)):=f
       have hnn:r.length<=4398046511104:=by omega
       have D:=g.snoc (c:=C) M P (.inl E);rw[H.out] at D;have y:=(show Hid _ from D)
       clear D;generalize hRL:r.length=RL at *;have F:=(show Hid _ from hRL)
       clear hRL;clear E z;go_wp2_with (at_builtin;refine wpList_append_own _ rfl _ _ 36 rfl A.heap.size 5 i0 (.int .u8 0) 1 1 bW hi0 T hz1 Y rfl (by decide) _ _ _ rfl (B.alloc _) ⟨wr.heap.size,0,none⟩ 1 1 [.int .u8 C] rfl rfl ?cb1 ?cb2 ?cb3 ?cb4 ?cb5 ?_)
       case cb1=>exact cell_one_new _ _ _
       case cb2=>intro u hu;simp at hu;subst hu;rfl
       case cb3=>unfold maxLen;omega
       case cb4=>omega
       case cb5=>simp;omega
       intro v' w2 t s _
       have X:bz w2 A.heap.size v' (r ++ [C]):=by
        unfold bz;rw[List.length_append,F.out,List.map_append];exact t
       have HB:Below A.heap.size A w2:=(q.alloc (by omega) _).grown s (by simp;omega) (ve f)
       have K:(r ++ [C]).length<=4 * (N - (i+1))+(j+1):=by rw[List.length_append,F.out];simp;omega
       clear t s B f q g;go_wp2;go_roundw
       case rel=>exact⟨j+1,r ++ [C],by omega,by rw[show (24 - 8 * ((j+1:Nat):Int))=(sh:Int) - 8 from by omega],X,y.out,K,HB⟩
       case measure=>simp[intOf];omega
    ·have hj5:j=4:=by omega
     subst hj5
     have Q:IsB r (v32 (d.drop i)):=by
      rw[HV.out];have:=g;rw[show (256:Int) ^ 4=4294967296 from by decide,show (2:Int) ^ (32 - 8 * 4)=1 from by decide,Int.ediv_one] at this;rw[show x+4294967296 * V=V * 4294967296+x from by omega];exact this
     have y:=(show Hid _ from Q)
     clear Q g;go_wp2;go_roundw
     case rel=>exact⟨i,r,by omega,rfl,f,y.out,by omega,q⟩
     case measure=>simp[intOf]
  ·have hm0:m=0:=by omega
   subst hm0;rw[List.drop_zero,HDV.out] at g;have y:=(show Hid _ from g)
   have X:bz wr w.heap.size _ r:=yw f I;have HB:=hb1.trans (q.mono I);clear g f;go_wp2;go_ret;exact⟨_,r,rfl,X,y.out,by omega,HB⟩
end
section
variable {B n:Nat}{w w':World}{v:Value}{xs:List Value}{L:List Int}
structure Byt(B:Nat)(w w':World):Prop where
 os:w'.os=w.os
 tape:w'.tape=w.tape
 output:w'.output=w.output
 size:w.heap.size<=w'.heap.size
 low:∀ k:Nat,k < B->k < w.heap.size->w'.heap[k]?=w.heap[k]?
 typ:∀ (k:Nat) (c:Array Value) (t:TypeId) (f:Nat × Nat),w.heap[k]?=some (Obj.cells c t f)->t≠5->w'.heap[k]?=w.heap[k]?
theorem Byt.of(h:Below w.heap.size w w'):Byt B w w':=⟨h.os,h.tape,h.output,h.size,fun k _ hk=>h.block k hk,fun k _ _ _ hc _=>h.block k (lt_of_block hc)⟩
theorem Byt.trans{w1 g:World}(h:Byt B w w1)(a:Byt B w1 g):Byt B w g:=⟨a.os.trans h.os,a.tape.trans h.tape,a.output.trans h.output,Nat.le_trans h.size a.size,
 fun k e d=>(a.low k e (Nat.lt_of_lt_of_le d h.size)).trans (h.low k e d),fun k c t f hc b=>(a.typ k c t f (by rw[h.typ k c t f hc b];exact hc) b).trans (h.typ k c t f hc b)⟩
theorem Byt.grown(a:w.ownsRow B 5 1 v n xs)(h:w.grownBy w' v.ownBlock):Byt B w w':=by
 refine⟨h.os,h.tape,h.output,h.size,fun k i d=>h.block k d fun e=>?_,fun k c t f hc b=>h.block k (lt_of_block hc) fun e=>?_⟩
 ·have:=(a.lt k e.symm).1;omega
 ·rcases a.2 with⟨rfl,_⟩ | ⟨g,cap,cur,rfl,_,hh,_⟩
  ·cases e
  ·simp[Value.ownBlock] at e;subst e;rw[hh] at hc
   cases hc;exact b rfl
theorem Byt.below{A:Nat}{w0:World}(h:Byt B w w')(b:Below A w0 w)(hA:A<=B)(c:A<=w0.heap.size):Below A w0 w' :=
 ⟨h.os.trans b.os,h.tape.trans b.tape,h.output.trans b.output,Nat.le_trans b.size h.size,fun k a=>(h.low k (by omega) (Nat.lt_of_lt_of_le (Nat.lt_of_lt_of_le a c) b.size)).trans (b.block k a)⟩
theorem et{x:Int}(I:bz w B v L)(J:B<=w.heap.size)(hn:n<=8)(X:L.length<=1099511627776) :
  Calls Tryz.prog 89 #[v,.int .i64 n,.int .u64 x] w fun e w'=>∃ v',e=.returned v'/\bz w' B v' (L ++ be n x)/\Byt B w w':=by
 obtain⟨i0,hi,t,y,r⟩:=info_parts iu
 have A:Hid (Tryz.prog.info? 5=some i0/\i0.zero=some (.int .u8 0)/\i0.size=1/\i0.bytes=1):=⟨hi,t,y,r⟩
 have N:=(show Hid _ from I)
 have H:=(show Hid _ from J)
 have S:(n:Int)<=8:=by omega
 clear hi t y r I J;go_enter Tryz.func89,Tryz.ntmps89;go_wp2_with fail;go_loopw [0,7] (fun P F wr=>∃ j:Nat,j<=n/\F=.int .i64 ((n:Int) - 1 - j)/\bz wr B P (L ++ (be n x).take j)/\Byt B w wr) (fun _ F _=>(intOf F+1).toNat)
 case atStart=>exact⟨0,Nat.zero_le _,by simp,by rw[List.take_zero,List.append_nil];exact N.out,Byt.of (Below.refl _ _)⟩
 case round =>
  obtain⟨j,Y,rfl,c,g⟩:=hrel;by_cases s:j < n
  ·obtain⟨h,T⟩:∃ h:Nat,(n:Int) - 1 - j=h:=⟨n - 1 - j,by omega⟩
   have z:n - 1 - j=h:=by omega
   have R:h < 8:=by omega
   have W:Hid ((be n x).take (j+1)=(be n x).take j ++ [x / 2 ^ (8 * h) % 256]):=by
    have e1:(256:Int) ^ h=2 ^ (8 * h):=by rw[Int.pow_mul];rfl
    show _=_
    rw[cF (by rw[aD];exact s),uZ n x j s,z,e1]
   obtain⟨M,l⟩:∃ M,M=L ++ (be n x).take j:=⟨_,rfl⟩
   rw[<- l] at c;obtain⟨q,D⟩:∃ q,M.length=q:=⟨_,rfl⟩
   have V:q<=1099511627776+8:=by
    have:M.length=L.length+((be n x).take j).length:=by rw[l,List.length_append]
    rw[List.length_take,aD] at this;omega
   have E:=(show Hid _ from l)
   have O:=(show Hid _ from D)
   obtain⟨U,Q,rfl⟩:=c.shape;have i:=af wr (.cells #[.int .u8 (x / 2 ^ (8 * h) % 256)] 5)
   have b:(wr.alloc (.cells #[.int .u8 (x / 2 ^ (8 * h) % 256)] 5)).ownsRow B 5 1 (.slice U M.length Q) M.length (M.map (Value.int .u8)):=du c i;rw[D] at b ⊢;have G:=(show Hid _ from g.trans (Byt.of i))
   have C:Hid (B<=(wr.alloc (.cells #[.int .u8 (x / 2 ^ (8 * h) % 256)] 5)).heap.size):=Nat.le_trans H.out (Nat.le_trans g.size i.size)
   have m:∀ q u,[Value.int .u8 (x / 2 ^ (8 * h) % 256)][q]? = some u->(wr.alloc (.cells #[.int .u8 (x / 2 ^ (8 * h) % 256)] 5)).cell? ((⟨wr.heap.size,0,none⟩:Addr).add q)=some u:=fun q u hu=>by
    match q,hu with
    | 0,hu =>
     cases hu;have hb:=(fy wr [Value.int .u8 (x / 2 ^ (8 * h) % 256)] 5).blk;simp only[World.cell?,Addr.add,if_true,hb];rfl
    | q+1,hu=>simp at hu
   clear c g i z D l;rw[T];go_wp2_with (at_builtin;refine wpList_append_own _ rfl _ _ 36 rfl B 5 i0 (.int .u8 0) 1 1 bW A.out.1 A.out.2.1 A.out.2.2.1 A.out.2.2.2 rfl (by decide) _ _ _ rfl b ⟨wr.heap.size,0,none⟩ 1 1 [Value.int .u8 (x / 2 ^ (8 * h) % 256)] rfl rfl ?c1 ?c2 ?c3 ?c4 ?c5 ?_)
   case c1=>exact m
   case c2=>intro u hu;rw[List.mem_singleton] at hu;subst hu;rfl
   case c3=>unfold maxLen;omega
   case c4=>omega
   case c5=>exact C.out
   intro v' K d f _;have o:=(show Hid _ from G.out.trans (Byt.grown b f))
   have p:Hid (bz K B v' (L ++ (be n x).take (j+1))):=by
    show K.ownsRow _ _ _ _ _ _
    have e:(L ++ (be n x).take (j+1))=M ++ [x / 2 ^ (8 * h) % 256]:=by rw[W.out,E.out,List.append_assoc]
    rw[e,List.length_append,O.out,List.map_append];exact d
   clear b d f m;go_wp2;exact⟨⟨j+1,by omega,by go_num,p.out,o.out⟩,by simp[intOf]⟩
  ·obtain rfl:j=n:=by omega
   have p:Hid (bz wr B u0 (L ++ be j x)):=by
    have:=c;rw[List.take_of_length_le (by rw[aD];exact Nat.le_refl _)] at this;exact this
   have o:=(show Hid _ from g)
   have e1:(j:Int) - 1 - j=-1:=by omega
   rw[e1];clear c g;go_wp2;go_ret;exact⟨_,rfl,p.out,o.out⟩
end
section
variable {w:World}{g b m:Nat}{err:Int}{l:List Int}
structure RfA(w:World)(g b:Nat)(err:Int)(l:List Int):Prop where
 ex:∃ ao n c,Box w g [.slice ao n c,.int .i64 err] 243/\ByA w b ao n c l
theorem RfA.keep{w':World}(h:RfA w g b err l)(hb:Below w.heap.size w w'):RfA w' g b err l:=by
 obtain⟨ao,n,c,h1,h2⟩:=h.ex;exact⟨ao,n,c,h1.keep hb,h2.keep hb⟩
theorem mh(err:Int)(ao:Option Addr)(n c:Nat):∀ v∈[Value.slice ao n c,Value.int .i64 err],∀ x,v≠.int .u8 x:=fun v a x e=>by
 rcases List.mem_cons.1 a with h | h
 ·subst h;cases e
 ·rw[List.mem_singleton] at h;subst h;cases e
theorem RfA.lt(h:RfA w g b err l):g < w.heap.size:=by
 obtain⟨_,_,_,X,_⟩:=h.ex;exact X.lt
theorem RfA.oct(h:RfA w g b err l):aZ l:=by
 obtain⟨_,_,_,_,A⟩:=h.ex;obtain⟨o,_,_,_,h4,_⟩:=A.ex;exact h4
theorem ie(w:World)(g k:Nat)(v:Value):But g w (w.setCell ⟨g,k,none⟩ v):=⟨rfl,rfl,rfl,by rw[size_set];exact Nat.le_refl _,fun _ _ h2=>Below.heap_setCell _ _ _ _ h2⟩
theorem Bf(h:RfA w g b 0 l)(hm:m<=l.length) :
  Calls Tryz.prog 196 #[.pointer (some ⟨g,0,none⟩),.int .i64 m] w fun e w'=>∃ ao c,e=.returned (.slice ao m c)/\ByA w' b ao m c (l.take m)/\RfA w' g b 0 (l.drop m)/\But g w w':=by
 obtain⟨ao,n,c,X,A⟩:=h.ex;obtain⟨o,s,q,⟨u,-⟩,-,-⟩:=A.ex
 have d:m<=n:=by omega
 have H:But g w (w.setCell ⟨g,0,none⟩ (.slice (bV ao c m) (n - m) (c - m))):=ie _ _ _ _
 have f:Hid (∀ w',w'=w.setCell ⟨g,0,none⟩ (.slice (bV ao c m) (n - m) (c - m))->ByA w' b ao m c (l.take m)/\RfA w' g b 0 (l.drop m)/\But g w w'):=fun w' e=>by
  subst e;exact⟨(A.front2 d).but X (mh _ _ _ _) H,⟨_,_,_,gZ X _,(A.rest d).but X (mh _ _ _ _) H⟩,H⟩
 obtain⟨c1,c2,t,v⟩:=X.two
 have j:(m:Int)<=n:=by omega
 have p:(m:Int)<=c:=by omega
 have r:((n:Int) < m)=False:=eq_false (by omega)
 have i:(c:Int)<=9223372036854775807:=by omega
 clear X A h H;go_enter Tryz.func196,Tryz.ntmps196;go_wp2
 ·subst h;go_ret;exact⟨ao,c,rfl,f.out _ (by unfold bV;rw[if_pos rfl,Nat.sub_self])⟩
 ·go_ret;exact⟨ao,c,rfl,f.out _ (by unfold bV;rw[if_neg (by assumption)])⟩
theorem Em(h:RfA w g b 0 l)(hm:l.length < m) :
  Calls Tryz.prog 196 #[.pointer (some ⟨g,0,none⟩),.int .i64 m] w fun e w'=>e=.returned (.slice none 0 0)/\RfA w' g b 40 l/\But g w w':=by
 obtain⟨j,n,c,X,A⟩:=h.ex;obtain⟨o,p,f,⟨r,-⟩,-,-⟩:=A.ex
 have H:But g w (w.setCell ⟨g,1,none⟩ (.int .i64 40)):=ie _ _ _ _
 have d:Hid (RfA (w.setCell ⟨g,1,none⟩ (.int .i64 40)) g b 40 l/\But g w (w.setCell ⟨g,1,none⟩ (.int .i64 40))):=⟨⟨_,_,_,cM X _,A.but X (mh _ _ _ _) H⟩,H⟩
 obtain⟨c1,c2,q,s⟩:=X.two;have d2:=(cM X (.int .i64 40)).two.2.1
 have i:((n:Int) < m)=True:=eq_true (by omega);clear X A h H hm;go_enter Tryz.func196,Tryz.ntmps196;go_wp2;go_ret;exact⟨rfl,d.out⟩
theorem Cz{m:Int}(h:RfA w g b err l)(he:err≠0) :
  Calls Tryz.prog 196 #[.pointer (some ⟨g,0,none⟩),.int .i64 m] w fun e w'=>e=.returned (.slice none 0 0)/\w'=w:=by
 obtain⟨j,n,c,X,A⟩:=h.ex;obtain⟨c1,c2,i,o⟩:=X.two
 have f:(err == 0)=false:=beq_eq_false_iff_ne.2 he
 have d:(err != 0)=true:=bne_iff_ne.2 he;clear X A h he;go_enter Tryz.func196,Tryz.ntmps196;go_wp2;go_ret;exact⟨rfl,rfl⟩
theorem rfU(h:RfA w g b err l)(S:m<=8) :
  Calls Tryz.prog 146 #[.pointer (some ⟨g,0,none⟩),.int .i64 m] w fun e w'=>e=.returned (.int .u64 (rdV 0 (bN m l) err))/\RfA w' g b (rdE (bN m l) err) (rdL (bN m l) err l)/\But g w w':=by
 by_cases he:err=0
 ·subst he;by_cases hm:m<=l.length
  ·have j:bN m l=.inr (bp (l.take m),m):=by unfold bN; rw[if_pos hm]
   rw[j]
   show Calls Tryz.prog _ _ w fun e w'=>e=.returned (.int .u64 (bp (l.take m)))/\RfA w' g b 0 (l.drop m)/\But g w w'
   have J:Hid (aZ (l.take m)):=fun x hx=>h.oct x (List.mem_of_mem_take hx)
   have O:(l.take m).length=m:=by rw[List.length_take];omega
   have t:=Bf h hm;clear j h;generalize l.take m=d at *;generalize l.drop m=r at *
   have Q:(m:Int)<=8:=by omega
   go_enter Tryz.func146,Tryz.ntmps146;go_wp2_with fail;refine t.mono ?_
   rintro e H ⟨K,c,rfl,F,q,u⟩;have n:=(show Hid _ from q)
   have i:=(show Hid _ from u)
   obtain⟨o,-,-,-,-,v⟩:=F.ex;have s:=(show Hid _ from v)
   clear t F q u v;go_wp2_with fail;go_loop [6,7] (fun y p=>∃ k:Nat,k<=m/\p=.int .i64 k/\y=.int .u64 (bp (d.take k))) (fun _ p=>m - (intOf p).toNat)
   case atStart=>exact⟨0,Nat.zero_le _,rfl,rfl⟩
   case round =>
    obtain⟨k,U,rfl,rfl⟩:=hrel;by_cases M:k < m
    ·have f:k < d.length:=by omega
     have C:=s.out.cell k f;obtain rfl:K=some ⟨b,o,none⟩:=by
      rcases s.out.loc with e | e
      ·rw[e] at f;simp at f
      ·exact e
     have N:(k:Int) < m:=by omega
     have G:=J.out.nth k;have I:=bG (l:=d.take k) (fun x hx=>J.out x (List.mem_of_mem_take hx))
     have j:(256:Int) ^ (d.take k).length<=256 ^ 7:=eI (by rw[List.length_take];omega)
     have E:bp (d.take k) < 72057594037927936:=by
      have T:(256:Int) ^ 7=72057594037927936:=by decide
      omega
     have B:=I.1;have P:=or8 (bp (d.take k)) (nth d k) B E G.1 G.2
     have L:Hid (bp (d.take (k+1))=bp (d.take k) * 256+nth d k):=by show _=_;rw[cF f,nz]
     clear I j;generalize bp (d.take k)=V at *;generalize nth d k=D at *;go_wp2;go_round
     case rel=>exact⟨k+1,by omega,by go_num,by rw[L.out]⟩
     case measure=>simp[intOf];omega
    ·obtain rfl:k=m:=by omega
     have A:d.take k=d:=List.take_of_length_le (by omega);rw[A];go_wp2;go_ret;exact⟨rfl,n.out,i.out⟩
  ·have j:bN m l=.inl 40:=by unfold bN; rw[if_neg hm]
   rw[j]
   show Calls Tryz.prog _ _ w fun e w'=>e=.returned (.int .u64 0)/\RfA w' g b 40 l/\But g w w'
   have t:=Em (m:=m) h (by omega);clear j h hm;go_enter Tryz.func146,Tryz.ntmps146;go_wp2_with fail;refine t.mono ?_
   rintro e H ⟨rfl,q,u⟩;have n:=(show Hid _ from q)
   have i:=(show Hid _ from u)
   clear t q u;go_wp2_with fail;go_loop [6,7] (fun y p=>y=.int .u64 0/\p=.int .i64 0) (fun _ _=>0)
   case atStart=>exact⟨rfl,rfl⟩
   case round =>
    obtain⟨rfl,rfl⟩:=hrel;go_wp2;go_ret;exact⟨rfl,n.out,i.out⟩
 ·rw[lU he,js he,lO he];have t:=Cz (m:=(m:Int)) h he;have R:=(show Hid _ from h)
  clear h he;go_enter Tryz.func146,Tryz.ntmps146;go_wp2_with fail;refine t.mono ?_
  rintro e H ⟨rfl,z⟩;subst z;clear t;go_wp2_with fail;go_loop [6,7] (fun y p=>y=.int .u64 0/\p=.int .i64 0) (fun _ _=>0)
  case atStart=>exact⟨rfl,rfl⟩
  case round =>
   obtain⟨rfl,rfl⟩:=hrel;go_wp2;go_ret;exact⟨rfl,R.out,But.refl _ _⟩
theorem rfEnd(h:RfA w g b err l) :
  Calls Tryz.prog 197 #[.pointer (some ⟨g,0,none⟩)] w fun e w'=>e=.returned (.int .i64 (dF err l))/\RfA w' g b (dF err l) l/\But g w w':=by
 obtain⟨p,n,c,X,A⟩:=h.ex;obtain⟨o,q,m,⟨s,-⟩,-,-⟩:=A.ex
 have H:But g w (w.setCell ⟨g,1,none⟩ (.int .i64 43)):=ie _ _ _ _
 have f:Hid (RfA (w.setCell ⟨g,1,none⟩ (.int .i64 43)) g b 43 l/\But g w (w.setCell ⟨g,1,none⟩ (.int .i64 43))):=⟨⟨_,_,_,cM X _,A.but X (mh _ _ _ _) H⟩,H⟩
 obtain⟨c1,c2,r,t⟩:=X.two;have d2:=(cM X (.int .i64 43)).two.2.1;have i:=(show Hid _ from h)
 by_cases he:err=0
 ·subst he;by_cases d:l.length=0
  ·have e:dF 0 l=0:=by unfold dF; rw[if_pos rfl,if_pos d]
   rw[e]
   have hn:n=0:=by omega
   subst hn;clear X A h H f e d d2;go_enter Tryz.func197,Tryz.ntmps197;go_wp2;go_ret;exact⟨rfl,i.out,But.refl _ _⟩
  ·have e:dF 0 l=43:=by unfold dF; rw[if_pos rfl,if_neg d]
   rw[e]
   have hn:0 < n:=by omega
   clear X A h H e d i;go_enter Tryz.func197,Tryz.ntmps197;go_wp2;go_ret;exact⟨rfl,f.out⟩
 ·have e:dF err l=err:=by unfold dF; rw[if_neg he]
  rw[e]
  have j:(err == 0)=false:=beq_eq_false_iff_ne.2 he;clear X A h H f e he d2;go_enter Tryz.func197,Tryz.ntmps197;go_wp2;go_ret;exact⟨rfl,i.out,But.refl _ _⟩
end
theorem mR {l:List Int} (h:1<=l.length):bp (l.take 1)=nth l 0:=by
 cases l with
 | nil=>simp at h
 | cons x t=>simp[bp,nth]
theorem oR (l:List Int):nth (l.drop 1) 0=nth l 1:=by
 cases l with
 | nil=>rfl
 | cons x t=>rfl
theorem rfNatE {w:World} {g b:Nat} {err:Int} {l:List Int} (h:RfA w g b err l) (he:err≠0) :
  Calls Tryz.prog 207 #[.pointer (some ⟨g,0,none⟩)] w fun e w'=>e=.returned (.slice none 0 0)/\RfA w' g b err l/\But g w w':=by
 obtain⟨j,n,c,X,A⟩:=h.ex;obtain⟨c1,c2,m,o⟩:=X.two;have f:=(show Hid _ from h)
 have i:(err == 0)=false:=beq_eq_false_iff_ne.2 he
 have d:(err != 0)=true:=bne_iff_ne.2 he;clear X A h he;go_enter Tryz.func207,Tryz.ntmps207;go_wp2_with fail;go_region;go_wp2;go_ret;exact⟨rfl,f.out.keep (Below.refl _ _).drew,But.of (Below.refl _ _).drew⟩
section
variable {w:World}{g b:Nat}{ao:Option Addr}{l:List Int}
theorem RfA.err{n c:Nat}(e:Int)(X:Box w g [.slice ao n c,.int .i64 0] 243)(A:ByA w b ao n c l) :
  RfA (w.drew.setCell ⟨g,1,none⟩ (.int .i64 e)) g b e l/\But g w (w.drew.setCell ⟨g,1,none⟩ (.int .i64 e)):=by
 have a:Below w.heap.size w w.drew:=(Below.refl _ _).drew
 have H:But g w.drew (w.drew.setCell ⟨g,1,none⟩ (.int .i64 e)):=ie _ _ _ _;exact⟨⟨_,_,_,cM X.drew _,(A.keep a).but X.drew (mh _ _ _ _) H⟩,(But.of a).trans H⟩
theorem rfNatS(h:RfA w g b 0 l)(p:¬ (1<=l.length/\1+aR 1 l<=l.length)) :
  Calls Tryz.prog 207 #[.pointer (some ⟨g,0,none⟩)] w fun e w'=>e=.returned (.slice none 0 0)/\RfA w' g b 40 l/\But g w w':=by
 obtain⟨u,n,c,X,A⟩:=h.ex;obtain⟨o,E,z,⟨B,-⟩,j,i⟩:=A.ex;obtain⟨c1,c2,G,C⟩:=X.two;have r:=(show Hid _ from RfA.err 40 X A)
 have d2:=(cM X.drew (.int .i64 40)).two.2.1;by_cases f:1<=l.length
 ·have d:=i.cell 0 (by omega);rw[Nat.add_zero] at d;obtain rfl:u=some ⟨b,o,none⟩:=by
   rcases i.loc with e | e
   ·rw[e] at f;simp at f
   ·exact e
  have hn:0 < n:=by omega
  have y:(n == 0)=false:=beq_eq_false_iff_ne.2 (by omega)
  have t:((n:Int) == 0)=false:=beq_eq_false_iff_ne.2 (by omega)
  have q:((n:Int)=0)=False:=eq_false (by omega)
  have s:(n=0)=False:=eq_false (by omega)
  have hx:(aR 1 l:Int)=nth l 0:=by rw[gM j,mR f]
  rw[<- hx] at d
  have v:aR 1 l < 256:=by
   have:=j.nth 0;omega
  have m:¬ 1+aR 1 l<=n:=fun F=>p ⟨f,by omega⟩
  clear X A h p i hx j;generalize aR 1 l=x at *
  have D:((n:Int) < 1+(x:Int))=True:=eq_true (by omega);clear m;go_enter Tryz.func207,Tryz.ntmps207;go_wp2_with fail;go_region;go_wp2;go_ret;exact⟨rfl,r.out⟩
 ·have hn:n=0:=by omega
  subst hn;clear X A h p i;go_enter Tryz.func207,Tryz.ntmps207;go_wp2_with fail;go_region;go_wp2;go_ret;exact⟨rfl,r.out⟩
theorem rfNatF(h:RfA w g b 0 l)(i:1<=l.length)(C:1+aR 1 l<=l.length)(f:0 < aR 1 l/\nth (l.drop 1) 0=0) :
  Calls Tryz.prog 207 #[.pointer (some ⟨g,0,none⟩)] w fun e w'=>e=.returned (.slice none 0 0)/\RfA w' g b 41 l/\But g w w':=by
 obtain⟨u,n,c,X,A⟩:=h.ex;obtain⟨o,y,E,⟨F,-⟩,m,j⟩:=A.ex;obtain⟨c1,c2,I,G⟩:=X.two;have B:=(show Hid _ from RfA.err 41 X A)
 have d2:=(cM X.drew (.int .i64 41)).two.2.1;have d:=j.cell 0 (by omega);rw[Nat.add_zero] at d;have p:=j.cell 1 (by omega);rw[oR] at f;rw[f.2] at p;obtain rfl:u=some ⟨b,o,none⟩:=by
  rcases j.loc with e | e
  ·rw[e] at i;simp at i
  ·exact e
 have hn:0 < n:=by omega
 have D:(n == 0)=false:=beq_eq_false_iff_ne.2 (by omega)
 have r:((n:Int) == 0)=false:=beq_eq_false_iff_ne.2 (by omega)
 have q:((n:Int)=0)=False:=eq_false (by omega)
 have s:(n=0)=False:=eq_false (by omega)
 have hx:(aR 1 l:Int)=nth l 0:=by rw[gM m,mR i]
 rw[<- hx] at d
 have v:aR 1 l < 256:=by
  have:=m.nth 0;omega
 have z:=f.1;rw[y] at C;clear X A h j hx m f i;generalize aR 1 l=x at *
 have H:((n:Int) < 1+(x:Int))=False:=eq_false (by omega)
 have t:(1:Int) < n:=by omega
 go_enter Tryz.func207,Tryz.ntmps207;go_wp2_with fail;go_region;go_wp2;go_ret;exact⟨rfl,B.out⟩
end
theorem RfA.put {w:World} {g b G:Nat} {err:Int} {l:List Int} (h:RfA w g b err l) {v u:Value} {t:TypeId} (s:Slot w G v t) (f:G≠g) (i:∀ x,v≠.int .u8 x):RfA (w.setCell ⟨G,0,none⟩ u) g b err l:=by
 obtain⟨e,n,c,X,A⟩:=h.ex;refine⟨e,n,c,⟨?_⟩,A.box s.bx (fun j a=>by rw[List.mem_singleton] at a;subst a;exact i) fun k d=>Below.heap_setCell _ _ _ k d⟩;rw[Below.heap_setCell _ _ _ g f.symm];exact X.blk
end
section
namespace Rc
open Go.RowKit Go.Lib Pg Lim
attribute [local go_sem] Oper.semAt_some
section
variable {w:World}{g b:Nat}{l:List Int}{err:Int}
theorem Cx(h:RfA w g b 0 l)(hl:1<=l.length)(hs:1+aR 1 l<=l.length)(hz:¬ (0 < aR 1 l/\nth (l.drop 1) 0=0)) :
  Calls Tryz.prog 207 #[.pointer (some ⟨g,0,none⟩)] w fun e w'=>∃ a n c,e=.returned (.slice a n c)/\dg w' w.heap.size a n c (bp ((l.drop 1).take (aR 1 l)))/\n<=510/\RfA w' g b 0 (l.drop (1+aR 1 l))/\But g w w':=by
 obtain⟨j,n,c,X,A⟩:=h.ex;obtain⟨o,h1,h2,⟨h3,-⟩,h4,h5⟩:=A.ex;obtain⟨c1,c2,c3,c4⟩:=X.two;have Q:=h5.cell 0 (by omega);rw[Nat.add_zero] at Q;obtain rfl:j=some ⟨b,o,none⟩:=by
  rcases h5.loc with e | e
  ·rw[e] at hl;simp at hl
  ·exact e
 have hn:0 < n:=by omega
 have hnz:(n == 0)=false:=beq_eq_false_iff_ne.2 (by omega)
 have hnz2:((n:Int) == 0)=false:=beq_eq_false_iff_ne.2 (by omega)
 have hnz3:((n:Int)=0)=False:=eq_false (by omega)
 have hnz4:(n=0)=False:=eq_false (by omega)
 have hx:(aR 1 l:Int)=nth l 0:=by rw[gM h4,mR hl]
 rw[<- hx] at Q
 have hxb:aR 1 l < 256:=by
  have:=h4.nth 0;omega
 have t:=Bf (h.keep (Below.refl w.heap.size w).drew) hs;rw[show ((1+aR 1 l:Nat):Int)=1+(aR 1 l:Int) from by omega] at t
 have V:(l.take (1+aR 1 l)).drop 1=(l.drop 1).take (aR 1 l):=by rw[Nat.add_comm,List.drop_take];simp
 have Z:((l.drop 1).take (aR 1 l)).length=aR 1 l:=by rw[List.length_take,List.length_drop];omega
 have N:aZ ((l.drop 1).take (aR 1 l)):=fun y hy=>h4 y (List.mem_of_mem_drop (List.mem_of_mem_take hy))
 have P:0 < aR 1 l->nth ((l.drop 1).take (aR 1 l)) 0≠0:=fun h0 i=>hz ⟨h0,by rw[dw h0] at i;exact i⟩
 have d:0 < aR 1 l->w.cell? ⟨b,o+1,none⟩=some (.int .u8 (nth l 1)):=fun _=>h5.cell 1 (by omega)
 have p:0 < aR 1 l->nth l 1≠0:=fun h0 i=>hz ⟨h0,by rw[oR];exact i⟩
 rw[h1] at hs;have H:=(show Hid _ from V)
 have HLB:=(show Hid _ from Z)
 have O:=(show Hid _ from N)
 have S:=(show Hid _ from P)
 clear X A h h5 hx h4 hz V Z N P;generalize (l.drop 1).take (aR 1 l)=lb at *;generalize l.drop (1+aR 1 l)=rr at *;generalize l.take (1+aR 1 l)=ll at *;generalize nth l 1=y at *;generalize aR 1 l=x at *
 have hq:((n:Int) < 1+(x:Int))=False:=eq_false (by omega);have K:=(show Hid _ from(Below.refl w.heap.size w).drew)
 by_cases M:x=0
 ·have hx0:((0:Int) < (x:Int))=False:=eq_false (by omega)
  have C:(0 < x)=False:=eq_false (by omega);clear d p M;go_enter Tryz.func207,Tryz.ntmps207;go_wp2_with fail;go_region;go_wp2_with fail;refine t.mono ?_
  rintro e U ⟨j,f,rfl,q,J,L⟩
  have u:1+x<=f:=by obtain⟨_,_,i,_⟩:=q.ex;exact i
  have F:=q.rest (k:=1) (by omega);rw[H.out,show 1+x - 1=x from by omega] at F
  have hsl:∀ W,(Instr.sliceAt 36 (.slice j (1 + x) f) (some (.int .i64 1)) none none).run Tryz.prog W=.ok (.slice (bV j f 1) x (f - 1)) W:=fun W=>by
   have i:=sliceB j (1+x) f 1 W (by omega) u;rw[show 1+x - 1=x from by omega] at i;exact i
  obtain⟨o2,T,k2,k3,k4,R⟩:=F.ex;have t2:=lh (bV j f 1) x (f - 1) b o2 lb U T (by omega) O.out R S.out;have z:=(show Hid _ from J)
  have m:=(show Hid _ from(But.of (g:=g) K.out).trans L)
  clear t q J L F T k2 k3 k4 R;go_wp2_with fail;refine t2.mono ?_
  rintro e w2 ⟨v,r,rfl,G,Y,hr2,D⟩;obtain⟨a',c',rfl,I⟩:=vh G Y (show w.heap.size<=U.heap.size from m.out.size);have E:=(show Hid _ from I)
  have s:=(show Hid _ from z.out.keep D)
  have B:=(show Hid _ from m.out.trans (But.of D))
  clear t2 G Y I D;go_wp2;go_ret;exact⟨_,_,_,rfl,E.out,by omega,s.out,B.out⟩
 ·have hx0:(0:Int) < (x:Int):=by omega
  have C:0 < x:=by omega
  have hc1:=d C
  have hy:(y == 0)=false:=beq_eq_false_iff_ne.2 (p C)
  have hn1:(1:Int) < n:=by omega
  clear d p M;go_enter Tryz.func207,Tryz.ntmps207;go_wp2_with fail;go_region;go_wp2_with fail;refine t.mono ?_
  rintro e U ⟨j,f,rfl,q,J,L⟩
  have u:1+x<=f:=by obtain⟨_,_,i,_⟩:=q.ex;exact i
  have F:=q.rest (k:=1) (by omega);rw[H.out,show 1+x - 1=x from by omega] at F
  have hsl:∀ W,(Instr.sliceAt 36 (.slice j (1 + x) f) (some (.int .i64 1)) none none).run Tryz.prog W=.ok (.slice (bV j f 1) x (f - 1)) W:=fun W=>by
   have i:=sliceB j (1+x) f 1 W (by omega) u;rw[show 1+x - 1=x from by omega] at i;exact i
  obtain⟨o2,T,k2,k3,k4,R⟩:=F.ex;have t2:=lh (bV j f 1) x (f - 1) b o2 lb U T (by omega) O.out R S.out;have z:=(show Hid _ from J)
  have m:=(show Hid _ from(But.of (g:=g) K.out).trans L)
  clear t q J L F T k2 k3 k4 R;go_wp2_with fail;refine t2.mono ?_
  rintro e w2 ⟨v,r,rfl,G,Y,hr2,D⟩;obtain⟨a',c',rfl,I⟩:=vh G Y (show w.heap.size<=U.heap.size from m.out.size);have E:=(show Hid _ from I)
  have s:=(show Hid _ from z.out.keep D)
  have B:=(show Hid _ from m.out.trans (But.of D))
  clear t2 G Y I D;go_wp2;go_ret;exact⟨_,_,_,rfl,E.out,by omega,s.out,B.out⟩
theorem rfNatW(h:RfA w g b err l) :
  Calls Tryz.prog 207 #[.pointer (some ⟨g,0,none⟩)] w fun e w'=>∃ a n c,e=.returned (.slice a n c)/\dg w' w.heap.size a n c (rdV 0 (aY l) err)/\n<=510/\RfA w' g b (rdE (aY l) err) (rdL (aY l) err l)/\But g w w':=by
 by_cases he:err=0
 ·subst he;by_cases d:1<=l.length/\1+aR 1 l<=l.length
  ·by_cases m:0 < aR 1 l/\nth (l.drop 1) 0=0
   ·have j:aY l=.inl 41:=by unfold aY; rw[if_pos d.1,if_pos d.2,if_pos m]
    rw[j];refine(rfNatF h d.1 d.2 m).mono ?_
    rintro e w' ⟨f,i,k⟩;exact⟨none,0,0,f,fb _ _,by decide,i,k⟩
   ·have j:aY l=.inr (bp ((l.drop 1).take (aR 1 l)),1 + aR 1 l):=by unfold aY; rw[if_pos d.1,if_pos d.2,if_neg m]
    rw[j];exact Cx h d.1 d.2 m
  ·have j:aY l=.inl 40:=by
    unfold aY;by_cases f:1<=l.length
    ·rw[if_pos f,if_neg (fun i=>d ⟨f,i⟩)]
    ·rw[if_neg f]
   rw[j];refine(rfNatS h d).mono ?_
   rintro e w' ⟨f,i,k⟩;exact⟨none,0,0,f,fb _ _,by decide,i,k⟩
 ·rw[lU he,js he,lO he];refine(rfNatE h he).mono ?_
  rintro e w' ⟨f,i,k⟩;exact⟨none,0,0,f,fb _ _,by decide,i,k⟩
theorem rfDecW(h:RfA w g b err l) :
  Calls Tryz.prog 153 #[.pointer (some ⟨g,0,none⟩)] w fun e w'=>∃ ao n c,e=.returned (.agg #[.slice ao n c])/\dg w' w.heap.size ao n c (rdV 0 (aY l) err)/\n<=510/\RfA w' g b (rdE (aY l) err) (rdL (aY l) err l)/\But g w w':=by
 have f:=(show Hid _ from af w (.cells #[.slice none 0 0] 46))
 have q:=jl w (.slice none 0 0) 46
 have r:w.heap.size≠g:=by have:=h.lt;omega
 have i:=(show Hid _ from r)
 have t:=rfNatW (h.keep f.out);clear h r;generalize rdV 0 (aY l) err=V at *;generalize rdE (aY l) err=E at *;generalize rdL (aY l) err l=R at *;go_enter Tryz.func153,Tryz.ntmps153;go_wp2_with fail;refine t.mono ?_
 rintro e p ⟨ao,n,c,rfl,m,s,o,j⟩;have d:=q.but j i.out;have c1:=d.cell;have f1:=d.free;have y:=d.put (.slice ao n c);have z:=(show Hid (dg (p.setCell ⟨w.heap.size,0,none⟩ (.slice ao n c)) w.heap.size ao n c V) from(m.off (w':=p.setCell ⟨w.heap.size,0,none⟩ (.slice ao n c)) (by rw[size_set];exact Nat.le_refl _) (fun b hb _=>Below.heap_setCell _ _ _ b (by have:=bC w (.cells #[.slice none 0 0] 46);show b≠w.heap.size;omega))).low f.out.size)
 have v:=(show Hid _ from o.put (u:=.slice ao n c) d i.out (fun x e=>by cases e))
 have A:=(show Hid _ from((But.of (g:=g) f.out).trans j).put (Nat.le_refl _) (.slice ao n c))
 clear t q d o j m f i;go_wp2;refine bodyPost_ret (lV rfl rfl y) rfl ?_
 exact⟨ao,n,c,rfl,z.out,s,v.out,A.out⟩
end
end Rc
end
section
namespace Rc
open Go.RowKit Go.Lib Pg Lim
theorem xD {err:Int} {l:List Int} (h:dF err l=0):err=0/\l=[]:=by
 unfold dF at h;split at h
 ·rename_i he;split at h
  ·rename_i a;exact⟨he,List.eq_nil_of_length_eq_zero a⟩
  ·exact absurd h (by decide)
 ·exact absurd h (by assumption)
theorem ones (a:List (Nat × Nat)) (l:List Int) (c:aZ l) (b:(a.map Prod.snd).Nodup) (h:dF (thr rnx a (0,l,fun _=>0)).1 (thr rnx a (0,l,fun _=>0)).2.1=0):thr (pnx (thr rnx a (0,l,fun _=>0)).2.2) a []=l:=by
 obtain⟨e,d⟩:=xD h;have:=Ew a l (fun _=>0) c b e [];rw[d,List.append_nil,List.nil_append] at this;exact this
end Rc
end
section
open Go.RowKit Lim
section
variable {w:World}{l L:List Int}{B n:Nat}{v:Value}{ao:Option Addr}
theorem EO{x:Addr}{b o:Nat}(h:AtB w (some x) b o l):∀ j u,(l.map (Value.int .u8))[j]?=some u->w.cell? (x.add j)=some u:=by
 intro j u hu;rw[List.getElem?_map] at hu;rcases Nat.lt_or_ge j l.length with a | a
 ·rw[List.getElem?_eq_getElem a] at hu;simp at hu;subst hu
  have hx:x=⟨b,o,none⟩:=by
   rcases h.loc with e | e
   ·subst e;simp at a
   ·simpa using e
  subst hx;have:=h.cell j a;rw[da a] at this;rw[cU];exact this
 ·rw[List.getElem?_eq_none a] at hu;simp at hu
theorem oG(h:w.ownsRow B 5 1 v n (L.map (Value.int .u8) ++ l.map (Value.int .u8)))(hn:n=L.length+l.length):bz w B v (L ++ l):=by
 unfold bz;rw[List.length_append,List.map_append,<- hn];exact h
theorem Dm{c:Nat}{V:Int}(hM:bz w B v L)(hB:B<=w.heap.size)(hL:L.length<=1099511627776)(A:ef w ao n c V)(hn:n<=3000) :
  Calls Tryz.prog 206 #[v,.slice ao n c] w fun e w'=>∃ v',e=.returned (.tuple #[v',.bool (decide ((cW V).length < 256))])/\((cW V).length < 256->bz w' B v' (L ++ dz 1 (cW V)))/\Byt B w w':=by
 obtain⟨i0,hi,S,ab,X⟩:=info_parts iu
 have G:Hid (Tryz.prog.info? 5=some i0/\i0.zero=some (.int .u8 0)/\i0.size=1/\i0.bytes=1):=⟨hi,S,ab,X⟩
 have hV:=A.AJ;obtain⟨b,o,l,h1,h2,h3,h4,rfl⟩:=A.ex;have HM:=(show Hid _ from hM)
 have HBS:=(show Hid _ from hB)
 have HV:=(show Hid _ from hV)
 have t:=jH ao n c b o l w h1 (by omega) h3 h4;clear hi S ab X A h1 h2 h3 h4 hM hB hV;obtain⟨r,hr⟩:∃ r,cW (val l)=r:=⟨_,rfl⟩
 obtain⟨q,hq⟩:∃ q,r.length=q:=⟨_,rfl⟩
 have HR:=(show Hid _ from hr)
 have Q:=(show Hid _ from hq)
 rw[hr,hq];clear hr hq;by_cases y:q < 256
 ·rw[decide_eq_true y]
  have aa:(q:Int) < 256:=by omega
  have hq2:((255:Int) < q)=False:=eq_false (by omega);clear y;go_enter Tryz.func206,Tryz.ntmps206;go_wp2_with fail;refine t.mono ?_
  rintro e I ⟨v1,r',rfl,f,hI,-,p⟩;obtain rfl:r=r':=by rw[<- HR.out];exact eG HV.out hI
  obtain⟨U,c1,rfl⟩:=f.shape
  have W:=f;rw[Q.out] at f ⊢;have HM1:=(show Hid (bz I w.heap.size (.slice U q c1) r) from f)
  have H:=(show Hid _ from p)
  have E:=af I (.cells #[.int .u8 (q:Int)] 5)
  have C:(I.alloc (.cells #[.int .u8 (q:Int)] 5)).ownsRow B 5 1 v L.length (L.map (Value.int .u8)):=du (du HM.out H.out) E;have Z:=(show Hid _ from ai H.out E)
  have N:∀ j u,[Value.int .u8 (q:Int)][j]? = some u->(I.alloc (.cells #[.int .u8 (q:Int)] 5)).cell? ((⟨I.heap.size,0,none⟩:Addr).add j)=some u:=fun j u hu=>by
   match j,hu with
   | 0,hu =>
    cases hu;have hb:=(fy I [Value.int .u8 (q:Int)] 5).blk;simp only[World.cell?,Addr.add,if_true,hb];rfl
   | j+1,hu=>simp at hu
  have Y:Hid (bz (I.alloc (.cells #[.int .u8 (q:Int)] 5)) w.heap.size (.slice U q c1) r):=du HM1.out E;clear E t hI p f W;go_wp2_with (at_builtin;refine wpList_append_own _ rfl (.tmp 13) (.tmp 17) 36 rfl B 5 i0 (.int .u8 0) 1 1 bW G.out.1 G.out.2.1 G.out.2.2.1 G.out.2.2.2 rfl (by decide) _ _ _ rfl C ⟨I.heap.size,0,none⟩ 1 1 [Value.int .u8 (q:Int)] rfl rfl ?c1 ?c2 ?c3 ?c4 ?c5 ?_)
  case c1=>exact N
  case c2=>intro u hu;rw[List.mem_singleton] at hu;subst hu;rfl
  case c3=>unfold maxLen;omega
  case c4=>omega
  case c5=>exact Nat.le_trans HBS.out Z.out.size
  intro v2 w2 s g _;obtain⟨M,F⟩:∃ M,M=L ++ [(q:Int)]:=⟨_,rfl⟩
  have hM2:bz w2 B v2 M:=by
   rw[F];exact oG (l:=[(q:Int)]) s (by simp)
  have d:w2.ownsRow B 5 1 v2 M.length (M.map (Value.int .u8)):=hM2;have HMD:=(show Hid _ from F)
  have K:Hid (M.length=L.length+1):=by show _=_;rw[F];simp
  have O:=(show Hid _ from(Byt.of (B:=B) Z.out).trans (Byt.grown C g))
  have J:∀ k,v.ownBlock=some k->k < w.heap.size:=fun k hk=>((show w.ownsRow B 5 1 v L.length (L.map (Value.int .u8)) from HM.out).lt k hk).2
  have HS2:Hid (∃ b o,AtB w2 U b o r):=by
   obtain⟨b9,a9,c9,e9,R⟩:=Y.out.bya (by rw[<- HR.out];exact rR _);injection e9 with e1 e2 e3
   subst e1;rcases R with⟨hge,o9,-,-,-,-,R⟩
   refine⟨b9,o9,R.loc,fun i hi=>g.cell (R.cell i hi) fun e=>?_⟩;have:=J b9 e.symm;omega
  clear C s g N hM2 F J
  cases U with
  | none =>
   have e0:q=0/\c1=0:=by
    rcases HM1.out.2 with⟨h,-⟩ | ⟨_,_,_,h,_⟩
    ·injection h with h1 h2 h3
     exact⟨h2,h3⟩
    ·cases h
   obtain⟨rfl,rfl⟩:=e0;go_wp2_with (at_builtin;refine wpList_append_own_none rfl (.tmp 18) (.tmp 19) 36 rfl B 5 i0 1 bW G.out.1 _ _ _ rfl d rfl ?_)
   have P:Hid (bz w2 B v2 (L ++ dz 1 r)):=by
    have hr0:r=[]:=List.eq_nil_of_length_eq_zero Q.out
    have e:L ++ dz 1 r=M:=by rw[HMD.out,hr0];rfl
    rw[e];exact d
   clear d;go_wp2;go_ret2;exact⟨_,rfl,fun _=>P.out,O.out⟩
  | some x =>
   have D:∀ j u,(r.map (Value.int .u8))[j]?=some u->w2.cell? (x.add j)=some u:=by
    obtain⟨b9,o9,R⟩:=HS2.out;exact EO R
   go_wp2_with (at_builtin;refine wpList_append_own _ rfl (.tmp 18) (.tmp 19) 36 rfl B 5 i0 (.int .u8 0) 1 1 bW G.out.1 G.out.2.1 G.out.2.2.1 G.out.2.2.2 rfl (by decide) _ _ _ rfl d x q c1 (r.map (Value.int .u8)) rfl (by rw[List.length_map,Q.out,Nat.mul_one]) ?c1 ?c2 ?c3 ?c4 ?c5 ?_)
   case c1=>exact D
   case c2=>exact ints_oneCell _ _
   case c3=>unfold maxLen;have:=K.out;omega
   case c4=>have:=K.out;omega
   case c5=>exact Nat.le_trans HBS.out O.out.size
   intro v3 w3 z m _
   have P:Hid (bz w3 B v3 (L ++ dz 1 r)):=by
    have h9:=oG (L:=M) (l:=r) z (by rw[Q.out])
    have e:L ++ dz 1 r=M ++ r:=by
     unfold dz;rw[HMD.out,Q.out,List.append_assoc];congr 2
     show [(q:Int) / 256 ^ 0 % 256]=_
     rw[show (256:Int) ^ 0=1 by decide,Int.ediv_one,Int.emod_eq_of_lt (by omega) aa]
    rw[e];exact h9
   have T:=(show Hid _ from O.out.trans (Byt.grown d m))
   clear d z m D;go_wp2;go_ret2;exact⟨_,rfl,fun _=>P.out,T.out⟩
 ·rw[decide_eq_false y]
  have hq2:((255:Int) < q)=True:=eq_true (by omega);go_enter Tryz.func206,Tryz.ntmps206;go_wp2_with fail;refine t.mono ?_
  rintro e I ⟨v1,r',rfl,f,hI,-,p⟩;obtain rfl:r=r':=by rw[<- HR.out];exact eG HV.out hI
  obtain⟨U,c1,rfl⟩:=f.shape;rw[Q.out];have H:=(show Hid _ from p)
  have HLT:=(show Hid _ from y)
  clear t hI p f y;go_wp2;go_ret2;exact⟨_,rfl,fun h=>absurd h HLT.out,Byt.of H.out⟩
end
end
section
namespace Rc
open Go.RowKit Go.Lib Pg Lim
attribute [local go_sem] Oper.semAt_some
section
variable {w:World}{B g n c:Nat}{v:Value}{l L:List Int}{cs:List Value}{ao:Option Addr}{V:Int}
theorem yo{i:Nat}{t:TypeId}(h:bz w B v l)(k:Blk w g cs t)(f:t≠5)(u:Value):bz (w.setCell ⟨g,i,none⟩ u) B v l:=by
 obtain⟨m,b⟩:=h;refine⟨m,?_⟩;rcases b with b | ⟨c,cap,cur,n,j,d,o⟩
 ·exact .inl b
 ·refine .inr ⟨c,cap,cur,n,j,?_,o⟩
  have a:c≠g:=fun e=>by
   subst e;have:=k.blk.symm.trans d;simp at this;exact f this.2
  rw[Below.heap_setCell w _ u c a];exact d
theorem vG(f:bz w B v L)(g:B<=w.heap.size)(m:L.length<=1099511627776)(A:ef w ao n c V)(hn:n<=3000)(d:(cW V).length < 256) :
  Calls Tryz.prog 152 #[v,.agg #[.slice ao n c]] w fun e w'=>∃ v',e=.returned v'/\bz w' B v' (L ++ dz 1 (cW V))/\Byt B w w':=by
 have b:=af w (.cells #[.slice ao n c] 46);have r:=(aj w [.slice ao n c] 46).cell (i:=0) rfl;have t:=Dm (du f b) (Nat.le_trans g b.size) m (A.keep b) hn;rw[decide_eq_true d] at t;have l:=ah b;have p:=ah d;clear b d f g A;generalize L ++ dz 1 (cW V)=M at *;go_enter Tryz.func152,Tryz.ntmps152;go_wp2_with fail;refine t.mono ?_
 rintro e q ⟨v1,rfl,hm,hb⟩;have j:=ah (hm p.out);have o:=ah ((Byt.of l.out).trans hb);clear hm hb t;go_wp2;go_ret;exact⟨_,rfl,j.out,o.out⟩
theorem rd8(j:bz w B v L)(hB:B<=w.heap.size)(S:L.length<=1099511627776)(A:ef w ao n c V)(hn:n<=3000) :
  Calls Tryz.prog 104 #[v,.agg #[.slice ao n c]] w fun e w'=>∃ v',e=.returned v'/\bz w' B v' (L ++ dz 1 (cW (fit V)))/\Byt B w w':=by
 have s:=af w (.cells #[.slice ao n c] 46);have I:=aj w [.slice ao n c] 46;have x1:=I.cell (i:=0) rfl;have z:=A.AJ;obtain⟨b,o,l,X,h2,T,R,U⟩:=(A.keep s).ex;have t:=jH ao n c b o l _ X (by omega) T R;rw[U] at t;have G:=ah (A.keep s);have E:=ah (du j s);have W:=ah (Nat.le_trans hB s.size);have HS:=ah (Nat.lt_of_lt_of_le (Nat.lt_succ_self _) (Nat.le_of_eq (bC w (.cells #[.slice ao n c] 46)).symm));have F:=ah I;have N:=ah s;have H:=ah z;clear s I j hB A X h2 T R U z;go_enter Tryz.func104,Tryz.ntmps104;go_wp2_with fail;refine t.mono ?_
 rintro e J ⟨v1,r,rfl,m,O,-,d⟩;obtain⟨r1,c1,rfl⟩:=m.shape
 have x:cW V=r:=eG H.out O;have Y:=ah x;have y1:=(F.out.keep d).cell (i:=0) rfl;have g:=ah (F.out.keep d);have y:=ah (ai N.out d);by_cases f:r.length < 256
 ·have hq:((255:Int) < r.length)=False:=eq_false (by omega)
  have e1:fit V=V:=by unfold fit;rw[if_pos (by rw[x];exact f)]
  have t2:=vG (du E.out d) (Nat.le_trans W.out d.size) S (G.out.keep d) hn (by rw[x];exact f);have P:=ah e1;obtain⟨M,j⟩:∃ M,Hid (L ++ dz 1 (cW V)=M):=⟨_,rfl⟩
  rw[j.out] at t2;generalize r.length=q at *;clear m O d x Y E G e1 F N t f;go_wp2_with fail;refine t2.mono ?_
  rintro e D ⟨v2,rfl,hm,hb⟩;have C:=ah (show bz D B v2 M/\Byt B w D from⟨hm,(Byt.of y.out).trans hb⟩);clear hm hb t2;go_wp2;go_ret;exact⟨_,rfl,by rw[P.out,j.out];exact C.out.1,C.out.2⟩
 ·have hq:((255:Int) < r.length)=True:=eq_true (by omega)
  have e1:fit V=0:=by unfold fit;rw[if_neg (by rw[x];exact f)]
  have Z:Below w.heap.size w (J.setCell ⟨w.heap.size,0,none⟩ (.slice none 0 0)):=y.out.setCell (p:=⟨w.heap.size,0,none⟩) (Nat.le_refl _) _;have Q:=g.out.setCell (i:=0) (.slice none 0 0);have f1:=g.out.free 0;have z1:=Q.cell (i:=0) (v:=.slice none 0 0) rfl
  have M2:bz (J.setCell ⟨w.heap.size,0,none⟩ (.slice none 0 0)) B v L:=by
   have u:=du E.out d;exact yo u g.out (by decide) _
  have t2:=vG M2 (Nat.le_trans W.out (Nat.le_trans d.size (by rw[size_set];exact Nat.le_refl _))) S (jW (J.setCell ⟨w.heap.size,0,none⟩ (.slice none 0 0))).a (by omega) (by rw[zM];decide);have P:=ah e1;obtain⟨M,j⟩:∃ M,Hid (L ++ dz 1 (cW 0)=M):=⟨_,rfl⟩
  rw[j.out] at t2;generalize r.length=q at *;have K:=ah Z;clear m O d x Y E G e1 F N t f Z Q M2 g;go_wp2_with fail;refine t2.mono ?_
  rintro e D ⟨v2,rfl,hm,hb⟩;have C:=ah (show bz D B v2 M/\Byt B w D from⟨hm,(Byt.of K.out).trans hb⟩);clear hm hb t2;go_wp2;go_ret;exact⟨_,rfl,by rw[P.out,j.out];exact C.out.1,C.out.2⟩
theorem Blk.byt{w':World}{t:TypeId}(h:Blk w g cs t)(b:Byt B w w')(ht:t≠5):Blk w' g cs t:=⟨by rw[b.typ g _ t _ h.blk ht];exact h.blk⟩
theorem ru8{s:Nat}{xs:List Int}(f:bz w B v L)(y:B<=w.heap.size)(r:Blk w s (xs.map (Value.int .u64)) 22)(H:L.length<=1000000)(hx:xs.length<=1000) :
  Calls Tryz.prog 38 #[v,.slice (some ⟨s,0,none⟩) xs.length xs.length] w fun e w'=>∃ v',e=.returned v'/\bz w' B v' (L ++ xs.flatMap (be 8))/\Byt B w w':=by
 have A:=ah f;have E:=ah y;have G:=ah r
 have hlen:∀ j,((xs.take j).flatMap (be 8)).length<=8 * xs.length:=fun j=>by
  rw[List.length_flatMap]
  have e:∀ l:List Int,(l.map (fun a=>(be 8 a).length)).sum=8 * l.length:=fun l=>by
   induction l with
   | nil=>rfl
   | cons a l ih=>rw[List.map_cons,List.sum_cons,ih,aD,List.length_cons];omega
  rw[e,List.length_take];omega
 have D:=ah hlen;obtain⟨n,hn⟩:∃ n,xs.length=n:=⟨_,rfl⟩
 have o:=ah hn;rw[hn];rw[hn] at hx;clear f y r hlen hn;go_enter Tryz.func38,Tryz.ntmps38;go_wp2_with fail;go_loopw [0,5] (fun C q wr=>∃ j:Nat,j<=n/\q=.int .i64 j/\bz wr B C (L ++ (xs.take j).flatMap (be 8))/\Byt B w wr) (fun _ q _=>n - (intOf q).toNat)
 case atStart=>exact⟨0,Nat.zero_le _,rfl,by rw[List.take_zero,List.flatMap_nil,List.append_nil];exact A.out,Byt.of (Below.refl _ _)⟩
 case round =>
  obtain⟨j,I,rfl,c,b⟩:=hrel;by_cases p:j < n
  ·have u:(j:Int) < n:=by omega
   obtain⟨x,d⟩:∃ x,xs[j]?=some x:=⟨_,List.getElem?_eq_getElem (by rw[o.out];exact p)⟩
   have c1:=(Blk.byt G.out b (by decide)).cell (i:=j) (v:=.int .u64 x) (by rw[List.getElem?_map,d];rfl)
   have t:=et (n:=8) (x:=x) c (Nat.le_trans E.out b.size) (by decide) (by
    have:=D.out j;rw[List.length_append];rw[o.out] at this
    omega)
   have F:Hid ((L ++ (xs.take j).flatMap (be 8)) ++ be 8 x=L ++ (xs.take (j+1)).flatMap (be 8)):=by
    show _=_
    rw[List.take_add_one,d,List.flatMap_append,List.append_assoc];simp
   rw[F.out] at t;have g:=ah b;obtain⟨M,f⟩:∃ M,Hid (L ++ (xs.take (j+1)).flatMap (be 8)=M):=⟨_,rfl⟩
   rw[f.out] at t;clear c b d;go_wp2_with fail;refine t.mono ?_
   rintro e z ⟨v2,rfl,hm,hb⟩;have m:=ah (show bz z B v2 M/\Byt B w z from⟨hm,g.out.trans hb⟩);clear hm hb t c1 g;go_wp2;refine⟨⟨j+1,by omega,by go_num,?_,m.out.2⟩,by simp[intOf];omega⟩;rw[f.out];exact m.out.1
  ·obtain rfl:j=n:=by omega
   rw[<- o.out,List.take_length] at c;have m:=ah (And.intro c b);clear c b;go_wp2;go_ret;exact⟨_,rfl,m.out⟩
end
end Rc
end
end Go.Proofs.YtidnifmehnjipaaGreat
