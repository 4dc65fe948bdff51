import Derived.Test.YtidnifmehnjipaaGreatJah
set_option maxRecDepth 100000
set_option maxHeartbeats 8000000
namespace Go.Proofs.YtidnifmehnjipaaGreat
section
namespace Ky
open Go.RowKit Go.Lib Pg
attribute [local go_sem] Oper.semAt_some lG
def r7 (b o c m:Nat):Option Addr:=if c=m then some ⟨b,o,none⟩ else some ⟨b,o+m,none⟩
theorem xB {w:World} {g b o n c m:Nat} (d:Blk w g [.slice (some ⟨b,o,none⟩) n c,.int .i64 0] 243) (hm:m<=n) (l:n<=c) (hc:c<=9223372036854775807) :
  Calls Tryz.prog 196 #[.pointer (some ⟨g,0,none⟩),.int .i64 m] w fun e w'=>e=.returned (.slice (some ⟨b,o,none⟩) m c)/\w'=w.setCell ⟨g,0,none⟩ (.slice (r7 b o c m) (n - m) (c - m)):=by
 have c1:=d.cell (i:=0) rfl;have c2:=d.cell (i:=1) rfl;have r:=d.free 0;have s:=d.free 1
 have f:(m:Int)<=n:=by omega
 have j:(m:Int)<=c:=by omega
 have q:((n:Int) < m)=False:=eq_false (by omega)
 have p:(c:Int)<=9223372036854775807:=by omega
 clear d;go_enter Tryz.func196,Tryz.ntmps196;go_wp2
 ·subst h;go_ret;exact⟨rfl,by unfold r7;rw[if_pos rfl]⟩
 ·go_ret;exact⟨rfl,by unfold r7;rw[if_neg (by assumption)]⟩
theorem rU_any {w0 w:World} {g b o n c m:Nat} {l:List Int} (p:By w0 (.slice (some ⟨b,o,none⟩) n c) l) (I:Below w0.heap.size w0 w) (F:w0.heap.size<=g) (A:Blk w g [.slice (some ⟨b,o,none⟩) n c,.int .i64 0] 243) (hm:m<=n) (L:m<=8) :
  Calls Tryz.prog 146 #[.pointer (some ⟨g,0,none⟩),.int .i64 m] w fun e w'=>e=.returned (.int .u64 (bv (l.take m)))/\w'=w.setCell ⟨g,0,none⟩ (.slice (r7 b o c m) (n - m) (c - m)):=by
 obtain⟨M,r,q⟩:=By.lens p;have t:=xB A hm r q
 have B:Hid (Oct (l.take m)):=fun x hx=>p.oct x (List.mem_of_mem_take hx)
 have C:Hid (By (w.setCell ⟨g,0,none⟩ (.slice (r7 b o c m) (n - m) (c - m))) (.slice (some ⟨b,o,none⟩) m c) (l.take m)):=(By.take p m hm).keep (I.setCell F _)
 have f:Hid ((l.take m).length=m):=by show _=_;rw[List.length_take];omega
 clear p A;generalize l.take m=d at *
 have H:(m:Int)<=8:=by omega
 go_enter Tryz.func146,Tryz.ntmps146;go_wp2_with (go_at_call 196;refine t.mono ?_;rintro e N ⟨rfl,rfl⟩);generalize u:w.setCell ⟨g,0,none⟩ (.slice (r7 b o c m) (n - m) (c - m))=W at *;replace u:=aQ u;go_loop [6,7] (fun J z=>∃ k:Nat,k<=m/\z=.int .i64 k/\J=.int .u64 (bv (d.take k))) (fun _ z=>m - (intOf z).toNat)
 case atStart=>exact⟨0,Nat.zero_le _,rfl,rfl⟩
 case round =>
  obtain⟨k,P,rfl,rfl⟩:=hrel;by_cases E:k < m
  ·obtain⟨x,hx⟩:∃ x,d[k]?=some x:=⟨d[k]'(by have:=f.out;omega),List.getElem?_eq_getElem _⟩
   obtain⟨O,Q,e,K⟩:=By.at C.out hx
   cases e;have i:=B.out x (List.mem_of_getElem? hx)
   have D:Hid (bv (d.take (k+1))=bv (d.take k) * 256+x):=by
    show _=_
    rw[List.take_add_one,hx];exact jG _ _
   have hb:=fK k (d.take k) (fun y hy=>B.out y (List.mem_of_mem_take hy)) (by rw[List.length_take];have:=f.out;omega)
   have j:bv (d.take k) < 72057594037927936:=by
    have R:(256:Int) ^ k<=256 ^ 7:=by
     have:(256:Nat) ^ k<=256 ^ 7:=Nat.pow_le_pow_right (by decide) (by omega);exact_mod_cast this
    have:(256:Int) ^ 7=72057594037927936:=by decide
    omega
   have G:=or64 (bv (d.take k)) x hb.1 j i.1 i.2;generalize bv (d.take k)=V at *
   have v:(k:Int) < m:=by omega
   clear hb j hx;go_wp2;go_round
   case rel =>
    refine⟨k+1,by omega,by go_num,?_⟩;rw[D.out]
   case measure=>simp[intOf];omega
  ·obtain rfl:k=m:=by omega
   have s:d.take k=d:=List.take_of_length_le (by have:=f.out;omega);rw[s]
   have v:¬ ((k:Int) < k):=by omega
   go_wp2;go_ret;exact⟨rfl,u.out.symm⟩
theorem xu {k:Int} {a:Int} (h:16 < (frm k).1):(mk k a 0).take ((mk k a 0).length - 8)=mkb (frm k) (tn k a):=by
 unfold mk;rw[if_pos h];simp[aD]
section
variable {l:List Int}{k:Nat}
theorem mg:∀ (n:Nat) (l:List Int),Oct l->l.length=n->be n (bv l)=l
 | 0,l,_,h=>by rw[List.eq_nil_of_length_eq_zero h];rfl
 | n + 1,l,ho,h=>by
  rcases List.eq_nil_or_concat l with rfl | ⟨l',x,rfl⟩
  ·simp at h
  ·have ho1:=ho x (by simp);have a:=mg n l' (fun y hy=>ho y (by simp[hy])) (by simpa using h);rw[List.concat_eq_append,jG,jJ];rw[show (bv l' * 256+x) / 256=bv l' by omega,show (bv l' * 256+x) % 256=x by omega,a]
theorem tE(b:Oct l)(h:l.length<=8):0<=bv l/\bv l < 18446744073709551616:=by
 have e:=fK l.length l b rfl
 have c:(256:Int) ^ l.length<=18446744073709551616:=by
  generalize l.length=k at h
  have d:(256:Nat) ^ k<=256 ^ 8:=Nat.pow_le_pow_right (by decide) h
  have a:((256 ^ k:Nat):Int)<=((256 ^ 8:Nat):Int):=by omega
  rw[Int.natCast_pow] at a;exact a
 omega
theorem wC(a:Oct l):0<=rdA k l/\rdA k l < 18446744073709551616:=by
 unfold rdA;split
 ·have h:=tE (l:=(l.drop 1).take 8) (fun x hx=>a x (List.mem_of_mem_drop (List.mem_of_mem_take hx))) (by rw[List.length_take];omega);unfold tn;split<;>omega
 ·decide
theorem Ev(ho:Oct l):0<=rdB l/\rdB l < 18446744073709551616:=by
 unfold rdB;split
 ·exact tE (fun x hx=>ho x (List.mem_of_mem_drop hx)) (by rw[List.length_drop];omega)
 ·decide
theorem rd_E(b:k < 18)(a:0 < k)(hn:(frm k).1=l.length):mkE k (rdA k l) (rdB l)=false:=by
 have c:=wK k b a;refine(Cl (n:=(frm k).1) (m0:=(frm k).2.1) (m1:=(frm k).2.2) rfl (by omega)).2 ⟨fun h=>?_,fun h=>?_⟩
 ·unfold rdA;rw[if_neg (by omega)]
 ·unfold rdB;rw[if_neg (by omega)]
theorem fIn_mk(m:k < 18)(j:0 < k)(g:Oct l)(h:frm k=fIn l):mk k (rdA k l) (rdB l)=l:=by
 have hF:=mb k m j;obtain⟨⟨n,m0,m1⟩,hf⟩:∃ f,frm k=f:=⟨_,rfl⟩
 rw[hf] at hF h;simp only at hF;rw[mk_eq hf];simp only[fIn,Prod.mk.injEq] at h;obtain⟨o,b,c⟩:=h
 have T:∀ x,tn (k:Int) (tn (k:Int) x)=x:=fun x=>Fe
 rcases hF with⟨rfl,rfl⟩ | ⟨rfl,rfl⟩ | ⟨rfl,hm⟩ | ⟨rfl,rfl⟩ | ⟨rfl,hm⟩
 ·have a:l.length=1:=by omega
  match l,a with
  | [x],_=>simp at b;simp[b]
 ·have a:l.length=9:=by omega
  have e:=mg 8 ((l.drop 1).take 8) (fun x hx=>g x (List.mem_of_mem_drop (List.mem_of_mem_take hx))) (by rw[List.length_take,List.length_drop];omega)
  have d:rdA k l=tn k (bv ((l.drop 1).take 8)):=by unfold rdA;rw[if_pos (by omega)]
  rw[d,T,e]
  match l,a with
  | x :: r,a =>
   simp at b a;simp[b,List.take_of_length_le (show r.length<=8 by omega)]
 ·have a:l.length=10:=by omega
  have e:=mg 8 ((l.drop 1).take 8) (fun x hx=>g x (List.mem_of_mem_drop (List.mem_of_mem_take hx))) (by rw[List.length_take,List.length_drop];omega)
  have d:rdA k l=tn k (bv ((l.drop 1).take 8)):=by unfold rdA;rw[if_pos (by omega)]
  rw[d,T,e];rw[if_pos (by omega)] at c
  match l,a with
  | [x0,x1,x2,x3,x4,x5,x6,x7,x8,x9],_=>simp at b c;simp[b,c];intro hx;exact absurd (c.trans hx) hm
 ·have a:l.length=17:=by omega
  have e:=mg 8 ((l.drop 1).take 8) (fun x hx=>g x (List.mem_of_mem_drop (List.mem_of_mem_take hx))) (by rw[List.length_take,List.length_drop];omega);have e2:=mg 8 (l.drop (l.length - 8)) (fun x hx=>g x (List.mem_of_mem_drop hx)) (by rw[List.length_drop];omega)
  have d:rdA k l=tn k (bv ((l.drop 1).take 8)):=by unfold rdA;rw[if_pos (by omega)]
  have i:rdB l=bv (l.drop (l.length - 8)):=by unfold rdB;rw[if_pos (by omega)]
  rw[d,i,T,e,e2]
  match l,a with
  | [x0,x1,x2,x3,x4,x5,x6,x7,x8,x9,y0,y1,y2,y3,y4,y5,y6],_=>simp at b;simp[b]
 ·have a:l.length=18:=by omega
  have e:=mg 8 ((l.drop 1).take 8) (fun x hx=>g x (List.mem_of_mem_drop (List.mem_of_mem_take hx))) (by rw[List.length_take,List.length_drop];omega);have e2:=mg 8 (l.drop (l.length - 8)) (fun x hx=>g x (List.mem_of_mem_drop hx)) (by rw[List.length_drop];omega)
  have d:rdA k l=tn k (bv ((l.drop 1).take 8)):=by unfold rdA;rw[if_pos (by omega)]
  have i:rdB l=bv (l.drop (l.length - 8)):=by unfold rdB;rw[if_pos (by omega)]
  rw[d,i,T,e,e2];rw[if_pos (by omega)] at c
  match l,a with
  | [x0,x1,x2,x3,x4,x5,x6,x7,x8,x9,y0,y1,y2,y3,y4,y5,y6,y7],_=>simp at b c;simp[b,c];rw[if_neg (fun hx=>hm (c.trans hx))];rfl
theorem mk_fIn(hk:k < 18)(h0:0 < k)(ho:Oct l)(hn:(frm k).1=l.length)(h:mk k (rdA k l) (rdB l)=l):frm k=fIn l:=by
 have:=(jI hk h0 (wC (k:=k) ho) (Ev ho) (rd_E hk h0 hn)).1;rw[h] at this;exact this
theorem zU{w0 w:World}{g b o n c m:Nat}(j:By w0 (.slice (some ⟨b,o,none⟩) n c) l)(p:Below w0.heap.size w0 w)(f:w0.heap.size<=g)(a:Blk w g [.slice (some ⟨b,o,none⟩) n c,.int .i64 0] 243)(hm:m<=n)(k:m<=8) :
  Calls Tryz.prog 146 #[.pointer (some ⟨g,0,none⟩),.int .i64 m] w fun e w'=>e=.returned (.int .u64 (bv (l.take m)))/\(m < c->Blk w' g [.slice (some ⟨b,o+m,none⟩) (n - m) (c - m),.int .i64 0] 243)/\Chg (·=g) w w':=by
 refine(rU_any j p f a hm k).mono ?_
 rintro e w' ⟨rfl,rfl⟩;refine⟨rfl,fun d=>?_,(Chg.refl (·=g) w).cell (.inl rfl) _⟩;have h:=a.setCell (i:=0) (.slice (r7 b o c m) (n - m) (c - m));unfold r7 at h ⊢;rw[if_neg (by omega)] at h ⊢;exact h
end
end Ky
end
section
namespace Ky
open Go.RowKit Go.Lib Pg
attribute [local go_sem] Oper.semAt_some
theorem sq {w:World} {u v:Value} {a b:List Int} {r:Bool} (f:By w u a) (hb:By w v b) (d:a.length<=1000) (g:b.length<=1000) (c:decide (a=b)=r):Calls Tryz.prog 61 #[u,v] w fun e w'=>e=.returned (.bool r)/\Below w.heap.size w w':=by
 rw[<- c];exact ec f hb (by omega) (by omega)
end Ky
end
end Go.Proofs.YtidnifmehnjipaaGreat
