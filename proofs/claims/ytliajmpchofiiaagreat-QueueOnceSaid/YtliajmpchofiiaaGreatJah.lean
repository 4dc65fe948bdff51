/- Several texts, joined: Num, Trim, Bits, Mem, Own, Cmp, Len, Div64, DivS, Norm, AddT, Add, TakeT, Sub, DivOne, DivL, Guess, Mul, DivLong, DivM, Scale, Pow, Help, ByteMem, FromB, Digits, Parse, Nm, Reg, RegA, ToB. -/
import Derived.Test.YtliajmpchofiiaaGreatChecked
import Derived.WalkKit
import Derived.WalkSpells
import Derived.WalkLawsBesides
import Derived.Laws.Externs
import Derived.Laws.MathBits
import Derived.Laws.CopyOwn
import Derived.Deep.QuietTactic
import Derived.BigQuiet
import Derived.Deep.RegionWith
import Derived.ScopeJumps
import Derived.WalkSmall
import Derived.OneCell
import Derived.Deep.RegionHeld3
import Derived.Laws.Tables
set_option maxRecDepth 100000
set_option maxHeartbeats 8000000
namespace Go.Proofs.YtliajmpchofiiaaGreat
section
namespace Lim
section
variable {l a b:List Int}{i k:Nat}{x:Int}
def nth(l:List Int)(i:Nat):Int:=l.getD i 0
def val:List Int->Int
 | []=>0
 | x :: l=>x + 18446744073709551616 * val l
def Words(l:List Int):Prop:=∀ x∈l,0<=x/\x < 18446744073709551616
def aT:List Int->Nat
 | []=>0
 | x :: l=>if aT l=0 then (if x=0 then 0 else 1) else aT l + 1
def norm(l:List Int):List Int:=l.take (aT l)
def IsN(l:List Int)(n:Int):Prop:=Words l/\aT l=l.length/\val l=n
theorem dy(x:Int)(l:List Int):nth (x :: l) 0=x:=by simp[nth]
theorem dA(x:Int)(l:List Int)(i:Nat):nth (x :: l) (i + 1)=nth l i:=by simp[nth]
theorem nJ(h:l.length<=i):nth l i=0:=by
 simp[nth,List.getElem?_eq_none h]
theorem cO(h:i < l.length):nth l i=l[i]:=by
 simp[nth,List.getElem?_eq_getElem h]
theorem rR(h:i < l.length):nth l i∈l:=by
 rw[cO h]; exact List.getElem_mem h
theorem Words.nth(h:Words l)(i:Nat):0<=nth l i/\nth l i < 18446744073709551616:=by
 by_cases hi:i < l.length
 ·exact h _ (rR hi)
 ·rw[nJ (by omega)]; decide
theorem Words.nil:Words []:=fun _ h=>by simp at h
theorem Words.tail(h:Words (x :: l)):Words l:=fun y hy=>h y (List.mem_cons_of_mem _ hy)
theorem Words.head(h:Words (x :: l)):0<=x/\x < 18446744073709551616:=h x (List.mem_cons_self)
theorem Words.take(h:Words l)(k:Nat):Words (l.take k):=fun x hx=>h x (List.mem_of_mem_take hx)
theorem Words.drop(h:Words l)(k:Nat):Words (l.drop k):=fun x hx=>h x (List.mem_of_mem_drop hx)
theorem dX(h:i < k):nth (l.take k) i=nth l i:=by
 simp[nth,h]
theorem fS(l:List Int)(k i:Nat):nth (l.drop k) i=nth l (k + i):=by
 simp[nth,List.getElem?_drop]
theorem oM(hl:a.length=b.length)(h:∀ i,i < a.length->nth a i=nth b i):a=b:=by
 apply List.ext_getElem hl;intro i h1 h2;have:=h i h1;rwa [cO h1,cO h2] at this
theorem j8(hk:k < l.length):nth (l.set k x) i=if i=k then x else nth l i:=by
 simp only[nth,List.getD_eq_getElem?_getD,List.getElem?_set];by_cases h:k=i
 ·subst h; simp[hk]
 ·simp[h,show ¬ i=k from fun e=>h e.symm]
theorem Words.set(h:Words l)(k:Nat)(h0:0<=x)(h1:x < 18446744073709551616):Words (l.set k x):=by
 intro y hy;rcases List.mem_or_eq_of_mem_set hy with e | e
 ·exact h y e
 ·subst e; exact⟨h0,h1⟩
theorem fe(h:k < l.length):l.take (k + 1)=l.take k ++ [nth l k]:=by
 rw[cO h,List.take_succ_eq_append_getElem h]
theorem cy(h:Words l):0<=val l:=by
 induction l with
 | nil=>simp[val]
 | cons x l ih=>have:=h.head; have:=ih h.tail; simp only[val]; omega
theorem rI(a b:List Int):val (a ++ b)=val a + 18446744073709551616 ^ a.length * val b:=by
 induction a with
 | nil=>simp[val]
 | cons x a ih=>simp only[List.cons_append,val,ih,List.length_cons,Int.pow_succ]; grind
theorem od(h:Words l):val l < 18446744073709551616 ^ l.length:=by
 induction l with
 | nil=>simp[val]
 | cons x l ih =>
  have:=h.head; have:=ih h.tail;simp only[val,List.length_cons,Int.pow_succ]; omega
theorem lF(x:Int):val [x]=x:=by simp[val]
theorem dO(l:List Int)(k:Nat)(h:k<=l.length):val l=val (l.take k) + 18446744073709551616 ^ k * val (l.drop k):=by
 conv=>lhs; rw[<- List.take_append_drop k l]
 rw[rI,List.length_take,Nat.min_eq_left h]
theorem j6(l:List Int):aT l<=l.length:=by
 induction l with
 | nil=>simp[aT]
 | cons x l ih=>simp only[aT,List.length_cons]; split<;>(try split)<;>omega
theorem eZ:aT l=0<->∀ i,nth l i=0:=by
 induction l with
 | nil=>simp[aT,nth]
 | cons x l ih =>
  simp only[aT];constructor
  ·intro h i;by_cases e:aT l=0
   ·by_cases x0:x=0
    ·cases i with
     | zero=>rw[dy,x0]
     | succ i=>rw[dA]; exact ih.1 e i
    ·simp[e,x0] at h
   ·simp[e] at h
  ·intro h
   have h0:x=0:=by have:=h 0; rwa [dy] at this
   have hl:aT l=0:=ih.2 fun i=>by have:=h (i + 1); rwa [dA] at this
   simp[hl,h0]
theorem rS(hk:k<=l.length)(h0:∀ i,k<=i->nth l i=0)(h1:k≠0->nth l (k - 1)≠0):aT l=k:=by
 induction l generalizing k with
 | nil=>simp[aT] at *; omega
 | cons x l ih =>
  cases k with
  | zero =>
   have:aT (x :: l)=0:=eZ.2 fun i=>h0 i (Nat.zero_le _)
   exact this
  | succ k =>
   have e:aT l=k:=ih (by simpa using hk) (fun i hi=>by have:=h0 (i + 1) (by omega); rwa [dA] at this) (fun hk0=>by
    have:=h1 (by omega); rw[show k + 1 - 1=(k - 1) + 1 from by omega,dA] at this; exact this)
   simp only[aT,e];by_cases hk0:k=0
   ·subst hk0;have:=h1 (by omega); rw[show (0 + 1 - 1)=0 from rfl,dy] at this;simp[this]
   ·simp[hk0]
theorem lP(h : aT l ≤ i) : nth l i = 0 := by
  induction l generalizing i with
  | nil => simp[nth]
  | cons x l ih =>
    simp only[aT] at h;by_cases e : aT l = 0
    · simp only[e, if_true] at h
      cases i with
      | zero => by_cases x0 : x = 0
                · rw[dy, x0]
                · simp[x0] at h
      | succ i => rw[dA]; exact eZ.1 e i
    · simp only[e, if_false] at h
      cases i with
      | zero => omega
      | succ i => rw[dA]; exact ih (by omega)
theorem ml(h:aT l≠0):nth l (aT l - 1)≠0:=by
 induction l with
 | nil=>simp[aT] at h
 | cons x l ih =>
  simp only[aT] at h ⊢;by_cases e:aT l=0
  ·simp only[e,if_true] at h ⊢;by_cases x0:x=0
   ·simp[x0] at h
   ·simp[x0,dy]
  ·simp only[e,if_false] at h ⊢;have:=ih e;rw[show aT l + 1 - 1=(aT l - 1) + 1 from by omega,dA]; exact this
theorem cV(l:List Int):(norm l).length=aT l:=by
 rw[norm,List.length_take,Nat.min_eq_left (j6 l)]
theorem pL(l:List Int)(i:Nat):nth (norm l) i=nth l i:=by
 by_cases h:i < aT l
 ·exact dX h
 ·rw[nJ (by rw[cV]; omega),lP (by omega)]
theorem Words.norm(h:Words l):Words (norm l):=h.take _
theorem jq(h:∀ i,nth l i=0):val l=0:=by
 induction l with
 | nil=>rfl
 | cons x l ih =>
  have h0:=h 0; rw[dy] at h0;rw[val,h0,ih fun i=>by have:=h (i + 1); rwa [dA] at this]; rfl
theorem kM(l:List Int):val (norm l)=val l:=by
 rw[dO l (aT l) (j6 l),jq (l:=l.drop (aT l)) fun i=>by rw[fS]; exact lP (by omega)];simp[norm]
theorem yR(h:Words l)(hn:aT l≠0):0 < val l:=by
 induction l with
 | nil=>simp[aT] at hn
 | cons x l ih =>
  have hx:=h.head; have hv:=cy h.tail;simp only[val];by_cases e:aT l=0
  ·simp only[aT,e,if_true] at hn;have:x≠0:=by intro x0; simp[x0] at hn
   omega
  ·have:=ih h.tail e; omega
theorem fX(h:Words l):aT l=0<->val l=0:=by
 constructor
 ·intro e; exact jq (eZ.1 e)
 ·intro e;by_cases n:aT l=0
  ·exact n
  ·have:=yR h n; omega
theorem lD(h:Words l)(hn:aT l≠0):18446744073709551616 ^ (aT l - 1)<=val l:=by
 have e:=kM l;have hl:=cV l;have hw:=h.norm;have hs:=dO (norm l) (aT l - 1) (by omega)
 have hd:(norm l).drop (aT l - 1)=[nth l (aT l - 1)]:=by
  apply oM
  ·simp[hl]; omega
  ·intro i hi;simp[hl] at hi;have:i=0:=by omega
   subst this;rw[fS,pL,dy]; rfl
 have h0:=cy (hw.take (aT l - 1));have hx:=h.nth (aT l - 1);have hne:=ml hn
 have hp:(0:Int) < 18446744073709551616 ^ (aT l - 1):=Int.pow_pos (by decide);rw[hd,lF] at hs;have:18446744073709551616 ^ (aT l - 1) * 1<=18446744073709551616 ^ (aT l - 1) * nth l (aT l - 1):=Int.mul_le_mul_of_nonneg_left (by omega) (Int.le_of_lt hp);omega
theorem jH(h:Words l):val l < 18446744073709551616 ^ aT l:=by
 have:=od h.norm;rwa [kM,cV] at this
theorem val_inj:∀ {a b:List Int},Words a->Words b->a.length=b.length->val a=val b->a=b
 | [],[],_,_,_,_=>rfl
 | x :: a,y :: b,ha,hb,hl,hv=>by
  have h1:=ha.head; have h2:=hb.head;simp only[val] at hv
  have e:x=y:=by omega
  have e2:val a=val b:=by omega
  rw[e,val_inj ha.tail hb.tail (by simpa using hl) e2]
theorem ql{a b:Nat}(h:a<=b):(18446744073709551616:Int) ^ a<=18446744073709551616 ^ b:=by
 obtain⟨d,rfl⟩:=Nat.exists_eq_add_of_le h;rw[Int.pow_add]
 have hp:(0:Int) < 18446744073709551616 ^ a:=Int.pow_pos (by decide)
 have hq:(0:Int) < 18446744073709551616 ^ d:=Int.pow_pos (by decide);have:(18446744073709551616:Int) ^ a * 1<=18446744073709551616 ^ a * 18446744073709551616 ^ d:=Int.mul_le_mul_of_nonneg_left (by omega) (Int.le_of_lt hp);omega
theorem eQ(ha:Words a)(hb:Words b)(h:aT a < aT b):val a < val b:=by
 have h1:=jH ha;have h2:=lD hb (by omega);have:=ql (show aT a<=aT b - 1 by omega);omega
theorem kP(ha:Words a)(hb:Words b)(h:val a=val b):aT a=aT b:=by
 rcases Nat.lt_trichotomy (aT a) (aT b) with h1 | h1 | h1
 ·have:=eQ ha hb h1; omega
 ·exact h1
 ·have:=eQ hb ha h1; omega
theorem qu{n:Int}(ha:IsN a n)(hb:IsN b n):a=b:=by
 apply val_inj ha.1 hb.1
 ·rw[<- ha.2.1,<- hb.2.1]; exact kP ha.1 hb.1 (ha.2.2.trans hb.2.2.symm)
 ·exact ha.2.2.trans hb.2.2.symm
end
end Lim
end
section
open Go.RowKit Lim
def Cells (w:World) (ao:Option Addr) (l:List Int):Prop :=
 l=[]\/∃ b o,ao=some ⟨b,o,none⟩/\∀ i,i < l.length->w.cell? ⟨b,o + i,none⟩=some (.int .u64 (nth l i))
theorem yr (ao:Option Addr) (n c:Nat) (l:List Int) (w:World) (hl:l.length=n) (hc:n<=c) (hb:n<=4398046511104) (hcell:Cells w ao l) :
  Calls Tryz.prog 298 #[.slice ao n c] w fun e w'=>e=.returned (.slice ao (aT l) (aT l))/\w'=w:=by
 go_enter Tryz.func298,Tryz.ntmps298;go_wp2;go_loop [3] (fun t=>∃ k:Nat,k<=n/\t=.int .i64 k/\Hid (∀ i,k<=i->nth l i=0)) (fun t=>(intOf t).toNat)
 case atStart=>exact⟨n,Nat.le_refl _,rfl,fun i hi=>nJ (by omega)⟩
 case round =>
  obtain⟨k,hk,rfl,hz⟩:=hrel;by_cases hk0:0 < k
  ·rcases hcell with e | ⟨b,o,rfl,hcell⟩
   ·subst e; simp at hl; omega
   ·have hcx:=hcell (k - 1) (by omega)
    have hcy:w.cell? ⟨b,o + k - 1,none⟩=some (.int .u64 (nth l (k - 1))):=by rw[<- hcx]; congr 2; omega
    clear hcell;go_wp2
    ·go_round
     case rel=>exact⟨k - 1,by omega,by go_num,fun i hi=>by
      by_cases e:i=k - 1
      ·subst e; exact beq_iff_eq.1 (by assumption)
      ·exact hz.out i (by omega)⟩
     case measure=>simp[intOf]; omega
    ·go_ret;rw[rS (k:=k) (by omega) hz.out (fun _=>beq_eq_false_iff_ne.1 (by assumption))];exact⟨rfl,rfl⟩
  ·go_wp2;go_ret;rw[rS (k:=k) (by omega) hz.out (fun _=>by omega)];exact⟨rfl,rfl⟩
end
section
open Go.RowKit Lim
end
section
open Go.RowKit Lim
section
variable {w w1 w':World}{ao:Option Addr}{b o n i B b' o':Nat}{l:List Int}{v:Value}
structure At(w:World)(ao:Option Addr)(b o:Nat)(l:List Int):Prop where
 loc:l=[]\/ao=some ⟨b,o,none⟩
 cell:∀ i,i < l.length->w.cell? ⟨b,o + i,none⟩=some (.int .u64 (nth l i))
theorem At.cells(h:At w ao b o l):Cells w ao l:=by
 rcases h.loc with e | e
 ·exact .inl e
 ·exact .inr ⟨b,o,e,h.cell⟩
def pR(w:World)(b o n:Nat):Prop:=∀ i,i < n->w.frozen? ⟨b,o + i,none⟩=false
structure Wr(b o n:Nat)(w w':World):Prop where
 os:w'.os=w.os
 tape:w'.tape=w.tape
 output:w'.output=w.output
 size:w'.heap.size=w.heap.size
 block:∀ k,k≠b->w'.heap[k]? = w.heap[k]?
 cell:∀ i,(i < o\/o + n<=i)->w'.cell? ⟨b,i,none⟩=w.cell? ⟨b,i,none⟩
 frozen:∀ i,w'.frozen? ⟨b,i,none⟩=w.frozen? ⟨b,i,none⟩
theorem Wr.refl(b o n:Nat)(w:World):Wr b o n w w:=⟨rfl,rfl,rfl,rfl,fun _ _=>rfl,fun _ _=>rfl,fun _=>rfl⟩
theorem Wr.trans{w2:World}(h:Wr b o n w w1)(k:Wr b o n w1 w2):Wr b o n w w2 :=
 ⟨k.os.trans h.os,k.tape.trans h.tape,k.output.trans h.output,k.size.trans h.size,fun i hi=>(k.block i hi).trans (h.block i hi),fun i hi=>(k.cell i hi).trans (h.cell i hi),fun i=>(k.frozen i).trans (h.frozen i)⟩
theorem Wr.setCell(h:Wr b o n w w1)(h1:o<=i)(h2:i < o + n)(v:Value):Wr b o n w (w1.setCell ⟨b,i,none⟩ v) :=
 h.trans ⟨rfl,rfl,rfl,by simp[World.setCell],fun k hk=>Below.heap_setCell _ _ _ _ hk,fun j hj=>by
   simp only[World.cell?,World.setCell,Array.getElem?_modify,if_true]
   cases hh:w1.heap[b]? with
   | none=>simp
   | some ob =>
    cases ob<;>simp
    rw[Array.getElem?_setIfInBounds,if_neg (by omega)],fun j=>by
   simp only[World.frozen?,World.setCell,Array.getElem?_modify,if_true]
   cases hh:w1.heap[b]? with
   | none=>simp
   | some ob=>cases ob<;>simp⟩
theorem Wr.other(h:Wr b o n w w'){k:Nat}(hk:k≠b):w'.cell? ⟨k,i,none⟩=w.cell? ⟨k,i,none⟩:=World.cell?_of_block (w:=w) (h.block k hk)
theorem Wr.below(h:Wr b o n w w')(hB:B<=b):Below B w w' :=
 ⟨h.os,h.tape,h.output,by rw[h.size]; exact Nat.le_refl _,fun k hk=>h.block k (by omega)⟩
theorem Wr.free(h:Wr b o n w w'){n':Nat}(k:pR w b' o' n'):pR w' b' o' n':=by
 intro i hi;by_cases e:b'=b
 ·subst e; rw[h.frozen]; exact k i hi
 ·rw[World.frozen?_of_block (w:=w) (h.block b' e)]; exact k i hi
theorem At.wr(h:Wr b o n w w')(k:At w ao b' o' l)(hb:l=[]\/b'≠b):At w' ao b' o' l :=
 ⟨k.loc,fun i hi=>by
  rcases hb with e | e
  ·subst e; simp at hi
  ·rw[h.other e]; exact k.cell i hi⟩
theorem At.below(h:Below B w w')(k:At w ao b o l)(hb:l=[]\/b < B):At w' ao b o l :=
 ⟨k.loc,fun i hi=>by
  rcases hb with e | e
  ·subst e; simp at hi
  ·rw[h.cell (p:=⟨b,o + i,none⟩) e]; exact k.cell i hi⟩
theorem aA(h:w.cell? ⟨b,o,none⟩=some v):b < w.heap.size:=by
 simp only[World.cell?] at h;by_cases hb:b < w.heap.size
 ·exact hb
 ·rw[Array.getElem?_eq_none (by omega)] at h; simp at h
theorem At.lt(k:At w ao b o l):l=[]\/b < w.heap.size:=by
 cases l with
 | nil=>exact .inl rfl
 | cons x l=>exact .inr (aA (k.cell 0 (by simp)))
theorem At.keep(h:Below w.heap.size w w')(k:At w ao b o l):At w' ao b o l:=k.below h k.lt
theorem At.setCell(k : At w ao b o l)(hi : i < l.length)(x : Int) : At (w.setCell ⟨b, o + i, none⟩ (.int .u64 x)) ao b o (l.set i x) :=
  ⟨by rcases k.loc with e | e
      · subst e; simp at hi
      · exact .inr e, fun j hj => by
    rw[List.length_set] at hj;have hc := k.cell j hj;rw[j8 hi];have hci := k.cell i hi;simp only[World.cell?, World.setCell, Array.getElem?_modify, if_true] at hc hci ⊢
    cases hh : w.heap[b]? with
    | none => rw[hh] at hc; simp at hc
    | some ob =>
      rw[hh] at hc hci
      cases ob with
      | cells c e f =>
        simp at hc hci ⊢;rw[Array.getElem?_setIfInBounds];by_cases e : j = i
        · subst e
          obtain⟨hlt, _⟩:= Array.getElem?_eq_some_iff.1 hci;simp[hlt]
        · rw[if_neg (by omega), if_neg e]; exact hc
      | _ => simp at hc⟩
theorem At.drew(h:At w ao b o l):At w.drew ao b o l:=⟨h.loc,h.cell⟩
theorem Wr.drew(h:Wr b o n w w'):Wr b o n w w'.drew:=⟨h.os,h.tape,h.output,h.size,h.block,h.cell,h.frozen⟩
end
end
section
open Go.RowKit Lim
section
variable {w:World}{g:Nat}{l:List Int}{ops:Array Oper}{rest:List Oper}
theorem wU:(Tryz.prog.info? 27).map (fun i=>(i.zero,i.size,i.bytes))=some (some (.int .u64 0),1,8):=by kernel_rfl
theorem tQ:Tryz.prog.underlying 47=some (.slice 27):=by kernel_rfl
def Row(w:World)(g:Nat)(l:List Int):Prop:=w.heap[g]? = some (.cells (l.map (Value.int .u64)).toArray 27 (0,0))
theorem Row.at(h:Row w g l):At w (some ⟨g,0,none⟩) g 0 l :=
 ⟨.inr rfl,fun i hi=>by
  unfold Row at h;simp only[World.cell?,h];simp[cO hi,hi]⟩
theorem Row.free(h:Row w g l)(o n:Nat):pR w g o n:=by
 intro i _;unfold Row at h;simp[World.frozen?,h]
structure tH(w w':World)(v:Value)(l:List Int):Prop where
 is:∃ ao b o c,v=.slice ao l.length c/\l.length<=c/\w.heap.size<=b/\At w' ao b o l/\pR w' b o l.length
theorem vu(n:Nat):madeCells (Value.int .u64 0).cells n=((List.replicate n 0).map (Value.int .u64)).toArray:=by
 apply Array.ext
 ·simp[size_madeCells]
 ·intro j h1 h2;simp[madeCells,Value.cells,Nat.mod_one]
theorem iA{o:Oper}{a:Act}{Q:Exit->Act->World->Prop}(hg:o.guard=none)(l c:Operand)(hop:o.op=Op.makeSlice 47 l c)(n:Nat)(L C:Int)(hl:a.eval l=.int .i64 L)(hc:a.eval c=.int .i64 C)(hL:L=(n:Int))(hC:C=(n:Int))(hn:n<=17592186044416)(hK:∀ w',Row w' w.heap.size (List.replicate n 0)->Below w.heap.size w w'->w'.heap.size=w.heap.size + 1->wpList Tryz.prog ops Q rest (a.put o.dst (.slice (some ⟨w.heap.size,0,none⟩) n n)) w') :
  wpList Tryz.prog ops Q (o :: rest) a w:=by
 obtain⟨i,hi,hz,hs,hb⟩:=info_parts wU;refine wpList_plain hg fun K hK' => ?_
 have hrun:=run_make (P:=Tryz.prog) w 47 27 i (.int .u64 0) tQ hi hz .i64 .i64 (n:Int) (n:Int) (by omega) (by omega) (by rw[hb]; omega) (by omega);subst hL;subst hC;unfold Oper.wp;simp only[execOp,hop,hl,hc];simp[hrun,Result.andThen];refine hK' _ _ (hK _ ?_ ?_ ?_)
 ·show (w.heap.push _)[w.heap.size]? = _
  rw[Array.getElem?_push_size,hs,Nat.mul_one,vu]
 ·exact(Below.refl _ _).alloc (Nat.le_refl _) _
 ·simp
end
end
section
open Go.RowKit Lim
theorem nA {k:IntKind} {a b:Int} (h:a=b):Ending.returned (.int k a)=.returned (.int k b):=by rw[h]
end
section
open Go.RowKit Lim
theorem w64 (z:Int) (h0:0<=z) (h1:z<=1000):wrap64 z=z:=by
 unfold wrap64; omega
theorem fw (k:Int) (i:Nat) (h0:0<=k) (hk:k<=56) (h:i < 256):wrap64 (k + wrap64 (bitLen i:Int))=k + bitLen i:=by
 have:=bitLen_le8 i h;rw[w64 (bitLen i) (by omega) (by omega),w64 _ (by omega) (by omega)]
theorem ik (x:Int) (b i:Nat) (h:x.toNat / 2 ^ b=i) (hi:i≠0):((bitLen x.toNat:Nat):Int)=b + bitLen i:=by
 rw[bitLen_shift x.toNat b (by rw[h]; exact hi),h]; omega
theorem len64 (x:Int) (w:World) (h0:0<=x) (h1:x < 18446744073709551616) :
  Calls Tryz.prog 212 #[.int .u64 x] w fun e w'=>e=.returned (.int .i64 (bitLen x.toNat))/\w'=w:=by
 by_cases c0:4294967296<=x
 ·by_cases c1:65536<=x / 4294967296
  ·by_cases c2:256<=x / 4294967296 / 65536
   ·go_enter Tryz.func212,Tryz.ntmps212;go_wp2;go_ret;refine⟨nA ?_,rfl⟩;rw[len8tab_get,fw 56 (x / 4294967296 / 65536 / 256).toNat (by decide) (by decide) (by omega),ik x 56 (x / 4294967296 / 65536 / 256).toNat (by rw[show (2:Nat) ^ 56=72057594037927936 from rfl]; omega) (by omega)];rfl
   ·go_enter Tryz.func212,Tryz.ntmps212;go_wp2;go_ret;refine⟨nA ?_,rfl⟩;rw[len8tab_get,fw 48 (x / 4294967296 / 65536).toNat (by decide) (by decide) (by omega),ik x 48 (x / 4294967296 / 65536).toNat (by rw[show (2:Nat) ^ 48=281474976710656 from rfl]; omega) (by omega)];rfl
  ·by_cases c2:256<=x / 4294967296
   ·go_enter Tryz.func212,Tryz.ntmps212;go_wp2;go_ret;refine⟨nA ?_,rfl⟩;rw[len8tab_get,fw 40 (x / 4294967296 / 256).toNat (by decide) (by decide) (by omega),ik x 40 (x / 4294967296 / 256).toNat (by rw[show (2:Nat) ^ 40=1099511627776 from rfl]; omega) (by omega)];rfl
   ·go_enter Tryz.func212,Tryz.ntmps212;go_wp2;go_ret;refine⟨nA ?_,rfl⟩;rw[len8tab_get,fw 32 (x / 4294967296).toNat (by decide) (by decide) (by omega),ik x 32 (x / 4294967296).toNat (by rw[show (2:Nat) ^ 32=4294967296 from rfl]; omega) (by omega)];rfl
 ·by_cases c1:65536<=x
  ·by_cases c2:256<=x / 65536
   ·go_enter Tryz.func212,Tryz.ntmps212;go_wp2;go_ret;refine⟨nA ?_,rfl⟩;rw[len8tab_get,fw 24 (x / 65536 / 256).toNat (by decide) (by decide) (by omega),ik x 24 (x / 65536 / 256).toNat (by rw[show (2:Nat) ^ 24=16777216 from rfl]; omega) (by omega)];rfl
   ·go_enter Tryz.func212,Tryz.ntmps212;go_wp2;go_ret;refine⟨nA ?_,rfl⟩;rw[len8tab_get,fw 16 (x / 65536).toNat (by decide) (by decide) (by omega),ik x 16 (x / 65536).toNat (by rw[show (2:Nat) ^ 16=65536 from rfl]; omega) (by omega)];rfl
  ·by_cases c2:256<=x
   ·go_enter Tryz.func212,Tryz.ntmps212;go_wp2;go_ret;refine⟨nA ?_,rfl⟩;rw[len8tab_get,fw 8 (x / 256).toNat (by decide) (by decide) (by omega),ik x 8 (x / 256).toNat (by rw[show (2:Nat) ^ 8=256 from rfl]; omega) (by omega)];rfl
   ·go_enter Tryz.func212,Tryz.ntmps212;go_wp2;go_ret;refine⟨nA ?_,rfl⟩;rw[len8tab_get];have:=bitLen_le8 x.toNat (by omega);rw[w64 (bitLen x.toNat:Int) (by omega) (by omega),w64 _ (by omega) (by omega)]
theorem jF {n:Nat} (h:n < 18446744073709551616):bitLen n<=64:=by
 unfold bitLen;split
 ·omega
 ·have:=(Nat.log2_lt (k:=64) ‹_›).2 (by omega); omega
theorem clz64 (x:Int) (w:World) (h0:0<=x) (h1:x < 18446744073709551616) :
  Calls Tryz.prog 299 #[.int .u64 x] w fun e w'=>e=.returned (.int .i64 (64 - bitLen x.toNat))/\w'=w:=by
 have hl:=jF (n:=x.toNat) (by omega);have t1:=len64 x w h0 h1;generalize bitLen x.toNat=L at *;go_enter Tryz.func299,Tryz.ntmps299;go_wp2_with fail;refine t1.mono ?_
 rintro e w1 ⟨rfl,rfl⟩;go_wp2;go_ret;exact⟨rfl,rfl⟩
end
section
open Go.RowKit Lim
theorem xf (a b:Int) (s:Nat) (k:Int) (ha:a=k * 2 ^ s) (hk:0<=k) (ha1:a < 18446744073709551616) (hb0:0<=b) (hb1:b < 2 ^ s) (hb2:b < 18446744073709551616):bits .or .u64 a b=a + b:=by
 have h2:(0:Int) < 2 ^ s:=Int.pow_pos (by decide)
 have ha0:0<=a:=by rw[ha]; exact Int.mul_nonneg hk (Int.le_of_lt h2)
 rw[u64_or a b ha0 ha1 hb0 hb2];obtain⟨k,rfl⟩:=Int.eq_ofNat_of_zero_le hk;obtain⟨b,rfl⟩:=Int.eq_ofNat_of_zero_le hb0
 have e:a.toNat=2 ^ s * k:=by
  have:a=((2 ^ s * k:Nat):Int):=by rw[ha,Int.natCast_mul,Int.natCast_pow,Int.mul_comm]; rfl
  rw[this,Int.toNat_natCast]
 have hb':b < 2 ^ s:=by
  have:((2 ^ s:Nat):Int)=2 ^ s:=by rw[Int.natCast_pow]; rfl
  omega
 rw[e,Int.toNat_natCast,<- Nat.two_pow_add_eq_or_of_lt hb',<- e];omega
end
section
open Go.RowKit Lim
end
section
open Go.RowKit Lim
theorem tH.of {w w':World} {l:List Int} {ao:Option Addr} {n c b o:Nat} (hn:n=l.length) (h1:n<=c) (h2:w.heap.size<=b) (h3:At w' ao b o l) (h4:pR w' b o n):tH w w' (.slice ao n c) l:=by
 subst hn; exact⟨ao,b,o,c,rfl,h1,h2,h3,h4⟩
end
section
open Go.RowKit Lim
end
section
open Go.RowKit Lim
theorem pow_pos (k:Nat):(0:Int) < 18446744073709551616 ^ k:=Int.pow_pos (by decide)
theorem ri (n:Nat):Words (List.replicate n 0):=fun x hx=>by rw[List.eq_of_mem_replicate hx]; decide
end
section
open Go.RowKit Lim
end
section
open Go.RowKit Lim
end
section
open Go.RowKit Lim
theorem aa (w:World) (o:Obj):Below w.heap.size w (w.alloc o):=(Below.refl _ _).alloc (Nat.le_refl _) _
theorem sy:IsN [] 0:=⟨Words.nil,rfl,rfl⟩
end
section
open Go.RowKit Lim
end
section
open Go.RowKit Lim
end
section
open Go.RowKit Lim
end
section
open Go.RowKit Lim
end
section
open Go.RowKit Lim
end
section
open Go.RowKit Lim
end
section
open Go.RowKit Lim
end
section
open Go.RowKit Lim
section
variable {l l':List Int}
def eqB(l l':List Int):Bool:=decide (l=l')
theorem vo(h:l=l'):eqB l l'=true:=by simp[eqB,h]
theorem mG(h:l≠l'):eqB l l'=false:=by simp[eqB,h]
theorem retB{a b:Bool}(h:a=b):Ending.returned (.bool a)=.returned (.bool b):=by rw[h]
theorem zU(ao:Option Addr)(n c b o:Nat)(ao':Option Addr)(n' c' b' o':Nat)(l l':List Int)(w:World)(hl:l.length=n)(hl':l'.length=n')(hbig:n<=4398046511104)(hbig':n'<=4398046511104)(ha:At w ao b o l)(ha':At w ao' b' o' l') :
  Calls Tryz.prog 148 #[.slice ao n c,.slice ao' n' c'] w fun e w'=>e=.returned (.bool (eqB l l'))/\Below w.heap.size w w':=by
 by_cases hne:n=n'
 ·subst hne;go_enter Tryz.func148,Tryz.ntmps148;go_wp2_with fail;go_loopw [5] (fun ti wr=>∃ k:Nat,k<=n/\ti=.int .i64 k/\Hid (∀ i,i < k->nth l i=nth l' i)/\Below w.heap.size w wr) (fun ti _=>n - (intOf ti).toNat)
  case atStart=>exact⟨0,Nat.zero_le _,rfl,fun i hi=>by omega,Below.refl _ _⟩
  case round =>
   obtain⟨k,hk,rfl,hz,hbe⟩:=hrel;by_cases hlt:k < n
   ·have hat:=ha.keep hbe
    have hat':=ha'.keep hbe;rcases ha.loc with e | rfl
    ·subst e; simp at hl; omega
    rcases ha'.loc with e | rfl
    ·subst e; simp at hl'; omega
    have q1:=hat.cell k (by omega);have q2:=hat'.cell k (by omega)
    have hk0:(k:Int) < n:=by omega
    by_cases hd:nth l k=nth l' k
    ·have HY:Hid (nth l k=nth l' k):=hd;rw[hd] at q1;generalize nth l' k=x at q1 q2;clear hd ha ha' hat hat';go_wp2_with fail;go_quiet (fail);go_wp2;go_roundw
     case rel=>exact⟨k + 1,by omega,by go_num,fun i hi=>by
      by_cases e:i=k
      ·subst e; exact HY.out
      ·exact hz.out i (by omega),below_drewN hbe _⟩
     case measure=>simp[intOf]; omega
    ·have HF:eqB l l'=false:=mG fun e=>hd (by rw[e])
     have hd':(nth l k != nth l' k)=true:=by rw[bne_iff_ne]; exact hd
     generalize nth l k=x at *;generalize nth l' k=y at *;clear ha ha' hat hat';go_wp2_with fail;go_quiet (fail);go_wp2;go_ret;exact⟨retB HF.symm,below_drewN hbe _⟩
   ·go_wp2;go_ret;exact⟨retB (vo (oM (by omega) fun i hi=>hz.out i (by omega))).symm,hbe⟩
 ·have hb1:((n:Int) != (n':Int))=true:=by rw[bne_iff_ne]; omega
  have HF:eqB l l'=false:=mG fun e=>hne (by rw[<- hl,<- hl',e])
  go_enter Tryz.func148,Tryz.ntmps148;go_wp2;go_ret;exact⟨retB HF.symm,Below.refl _ _⟩
end
end
section
open Go.RowKit Lim
section
variable {w w':World}{ao:Option Addr}{b o:Nat}{l:List Int}
structure AtB(w:World)(ao:Option Addr)(b o:Nat)(l:List Int):Prop where
 loc:l=[]\/ao=some ⟨b,o,none⟩
 cell:∀ i,i < l.length->w.cell? ⟨b,o + i,none⟩=some (.int .u8 (nth l i))
theorem AtB.lt(k:AtB w ao b o l):l=[]\/b < w.heap.size:=by
 cases l with
 | nil=>exact .inl rfl
 | cons x l=>exact .inr (aA (k.cell 0 (by simp)))
theorem AtB.keep(h:Below w.heap.size w w')(k:AtB w ao b o l):AtB w' ao b o l :=
 ⟨k.loc,fun i hi=>by
  rcases k.lt with e | e
  ·subst e; simp at hi
  ·rw[h.cell (p:=⟨b,o + i,none⟩) e]; exact k.cell i hi⟩
theorem AtB.wr{n:Nat}(h:Wr b o n w w'){b' o':Nat}(k:AtB w ao b' o' l)(hb:l=[]\/b'≠b):AtB w' ao b' o' l :=
 ⟨k.loc,fun i hi=>by
  rcases hb with e | e
  ·subst e; simp at hi
  ·rw[h.other e]; exact k.cell i hi⟩
theorem AtB.setCell(k : AtB w ao b o l){i:Nat}(hi : i < l.length)(x : Int) : AtB (w.setCell ⟨b, o + i, none⟩ (.int .u8 x)) ao b o (l.set i x) :=
  ⟨by rcases k.loc with e | e
      · subst e; simp at hi
      · exact .inr e, fun j hj => by
    rw[List.length_set] at hj;have hc := k.cell j hj;rw[j8 hi];have hci := k.cell i hi;simp only[World.cell?, World.setCell, Array.getElem?_modify, if_true] at hc hci ⊢
    cases hh : w.heap[b]? with
    | none => rw[hh] at hc; simp at hc
    | some ob =>
      rw[hh] at hc hci
      cases ob with
      | cells c e f =>
        simp at hc hci ⊢;rw[Array.getElem?_setIfInBounds];by_cases e : j = i
        · subst e
          obtain⟨hlt, _⟩:= Array.getElem?_eq_some_iff.1 hci;simp[hlt]
        · rw[if_neg (by omega), if_neg e]; exact hc
      | _ => simp at hc⟩
structure yK(w w':World)(v:Value)(l:List Int):Prop where
 is:∃ ao b o c,v=.slice ao l.length c/\l.length<=c/\w.heap.size<=b/\AtB w' ao b o l/\pR w' b o l.length
def aW(l:List Int):Prop:=∀ x∈l,0<=x/\x < 256
theorem aW.nth(h:aW l)(i:Nat):0<=nth l i/\nth l i < 256:=by
 by_cases hi:i < l.length
 ·exact h _ (rR hi)
 ·rw[nJ (by omega)]; decide
def bL:List Int->Int
 | []=>0
 | x :: l=>x * 256 ^ l.length + bL l
theorem bF(h:aW l):0<=bL l/\bL l < 256 ^ l.length:=by
 induction l with
 | nil=>simp[bL]
 | cons x l ih =>
  have h1:=ih (fun y hy=>h y (List.mem_cons_of_mem _ hy));have h2:=h x List.mem_cons_self
  have hp:(0:Int) < 256 ^ l.length:=Int.pow_pos (by decide)
  have h3:0<=x * 256 ^ l.length:=Int.mul_nonneg h2.1 (Int.le_of_lt hp)
  have h4:x * 256 ^ l.length<=255 * 256 ^ l.length:=Int.mul_le_mul_of_nonneg_right (by omega) (Int.le_of_lt hp);rw[bL,List.length_cons,Int.pow_succ]; omega
def IsB(l:List Int)(n:Int):Prop:=aW l/\(l≠[]->nth l 0≠0)/\bL l=n
theorem pN:∀ {a b:List Int},aW a->aW b->a.length=b.length->bL a=bL b->a=b
 | [],[],_,_,_,_=>rfl
 | x :: a,y :: b,ha,hb,hl,hv=>by
  have ha':aW a:=fun z hz=>ha z (List.mem_cons_of_mem _ hz)
  have hb':aW b:=fun z hz=>hb z (List.mem_cons_of_mem _ hz)
  have hl':a.length=b.length:=by simpa using hl
  have h1:=bF ha';have h2:=bF hb';rw[bL,bL,hl'] at hv;rw[hl'] at h1
  have hp:(0:Int) < 256 ^ b.length:=Int.pow_pos (by decide)
  have e:x=y:=by
   rcases Int.lt_trichotomy x y with c | c | c
   ·have:(x + 1) * 256 ^ b.length<=y * 256 ^ b.length:=Int.mul_le_mul_of_nonneg_right (by omega) (Int.le_of_lt hp);rw[Int.add_mul] at this; omega
   ·exact c
   ·have:(y + 1) * 256 ^ b.length<=x * 256 ^ b.length:=Int.mul_le_mul_of_nonneg_right (by omega) (Int.le_of_lt hp);rw[Int.add_mul] at this; omega
  subst e;rw[pN ha' hb' hl' (by omega)]
theorem sX(h:aW l)(h0:l≠[])(h1:nth l 0≠0):256 ^ (l.length - 1)<=bL l:=by
 cases l with
 | nil=>exact absurd rfl h0
 | cons x l =>
  rw[dy] at h1;have h2:=h x List.mem_cons_self;have h3:=bF (l:=l) (fun z hz=>h z (List.mem_cons_of_mem _ hz))
  have hp:(0:Int) < 256 ^ l.length:=Int.pow_pos (by decide);have:1 * 256 ^ l.length<=x * 256 ^ l.length:=Int.mul_le_mul_of_nonneg_right (by omega) (Int.le_of_lt hp);rw[bL,List.length_cons,Nat.add_sub_cancel]; omega
theorem ga{a:Nat}(h:a<=b):(256:Int) ^ a<=256 ^ b:=by
 have:(256:Nat) ^ a<=256 ^ b:=Nat.pow_le_pow_right (by decide) h
 have e1:((256 ^ a:Nat):Int)=(256:Int) ^ a:=by rw[Int.natCast_pow]; rfl
 have e2:((256 ^ b:Nat):Int)=(256:Int) ^ b:=by rw[Int.natCast_pow]; rfl
 omega
theorem ll{a b:List Int}{n:Int}(ha:IsB a n)(hb:IsB b n):a=b:=by
 apply pN ha.1 hb.1
 ·have key:∀ {a b:List Int},IsB a n->IsB b n->¬ a.length < b.length:=by
   intro a b ha hb hlt;have h1:=(bF ha.1).2;have h2:=sX hb.1 (fun e=>by subst e; simp at hlt) (hb.2.1 (fun e=>by subst e; simp at hlt));rw[ha.2.2] at h1;rw[hb.2.2] at h2;have:=ga (show a.length<=b.length - 1 by omega);omega
  have h1:=key ha hb;have h2:=key hb ha;omega
 ·rw[ha.2.2,hb.2.2]
end
end
section
open Go.RowKit Lim
section
variable {l:List Int}{i:Nat}
theorem bpow(k:Nat):(18446744073709551616:Int) ^ k=((2 ^ (64 * k):Nat):Int):=by
 rw[Nat.pow_mul,Int.natCast_pow]; rfl
theorem x8(wl:Words l)(hn:aT l≠0):bitLen (val l).toNat=64 * (aT l - 1) + bitLen (nth l (aT l - 1)).toNat:=by
 have h0:=cy wl;have hs:=dO (norm l) (aT l - 1) (by rw[cV]; omega)
 have hd:(norm l).drop (aT l - 1)=[nth l (aT l - 1)]:=by
  apply oM
  ·simp[cV]; omega
  ·intro i hi;simp[cV] at hi;have:i=0:=by omega
   subst this;rw[fS,pL,dy]; rfl
 rw[hd,lF,kM] at hs;have h1:=od (wl.norm.take (aT l - 1));have h2:=cy (wl.norm.take (aT l - 1));rw[List.length_take,cV,Nat.min_eq_left (by omega)] at h1;have h3:=wl.nth (aT l - 1);have h4:=ml hn;generalize nth l (aT l - 1)=x at *;generalize val ((norm l).take (aT l - 1))=y at *;generalize aT l - 1=k at *;rw[bpow] at hs h1;obtain⟨x,rfl⟩:=Int.eq_ofNat_of_zero_le h3.1;obtain⟨y,rfl⟩:=Int.eq_ofNat_of_zero_le h2;obtain⟨v,hv⟩:=Int.eq_ofNat_of_zero_le h0;rw[hv] at hs ⊢
 have hq:v / 2 ^ (64 * k)=x:=by
  have hv2:v=y + 2 ^ (64 * k) * x:=by
   have:(v:Int)=((y + 2 ^ (64 * k) * x:Nat):Int):=by rw[hs,Int.natCast_add,Int.natCast_mul]
   exact Int.ofNat.inj this
  rw[hv2,Nat.add_mul_div_left _ _ (Nat.two_pow_pos _),Nat.div_eq_of_lt (by omega),Nat.zero_add]
 rw[Int.toNat_natCast,Int.toNat_natCast,bitLen_shift v (64 * k) (by rw[hq]; omega),hq]
theorem vI(ao:Option Addr)(n c b o:Nat)(l:List Int)(w:World)(hl:l.length=n)(hc:n<=c)(hbig:n<=1099511627776)(wl:Words l)(ha:At w ao b o l) :
  Calls Tryz.prog 291 #[.slice ao n c] w fun e w'=>e=.returned (.int .i64 (bitLen (val l).toNat))/\Below w.heap.size w w':=by
 have hn:=j6 l;have t1:=yr ao n c l w hl hc (by omega) ha.cells;by_cases h0:aT l=0
 ·rw[h0] at t1
  have hv:(val l).toNat=0:=by rw[(fX wl).1 h0]; rfl
  rw[hv,show bitLen 0=0 from rfl];go_enter Tryz.func291,Tryz.ntmps291;go_wp2_with fail;refine t1.mono ?_
  rintro e w1 ⟨rfl,rfl⟩;go_wp2_with fail;go_ret;exact⟨rfl,Below.refl _ _⟩
 ·have ht:=x8 wl h0;have hx:=wl.nth (aT l - 1);have hcell:=ha.cell (aT l - 1) (by omega);have hl64:=jF (n:=(nth l (aT l - 1)).toNat) (by omega);have t2:=fun wx=>clz64 (nth l (aT l - 1)) wx hx.1 hx.2
  rcases ha.loc with e | rfl
  ·subst e; simp[aT] at h0
  rw[ht];generalize nth l (aT l - 1)=x at *;generalize bitLen x.toNat=L at *;clear ht ha;obtain⟨k,hk⟩:∃ k,aT l=k + 1:=⟨aT l - 1,by omega⟩
  rw[hk] at t1 hcell hn ⊢;rw[Nat.add_sub_cancel] at hcell ⊢;clear hk h0
  have hk0:(k:Int) < (k:Int) + 1:=by omega
  go_enter Tryz.func291,Tryz.ntmps291;go_wp2_with fail;refine t1.mono ?_
  rintro e w1 ⟨rfl,rfl⟩;clear t1;go_wp2_with fail;refine(t2 _).mono ?_
  rintro e w2 ⟨rfl,rfl⟩;go_wp2;go_ret;exact⟨nA (by omega),Below.refl _ _⟩
theorem wJ:IsN [] 0:=⟨Words.nil,rfl,rfl⟩
structure xw(lb:List Int)(m k:Nat)(lz:List Int):Prop where
 len:lz.length=m
 words:Words lz
 val:Lim.val lz=bL (lb.drop (lb.length - k))
theorem mJ(h:i < l.length):bL (l.drop i)=nth l i * 256 ^ (l.length - 1 - i) + bL (l.drop (i + 1)):=by
 rw[List.drop_eq_getElem_cons h,bL,cO h,List.length_drop,show l.length - (i + 1)=l.length - 1 - i from by omega]
theorem aW.drop(h:aW l)(k:Nat):aW (l.drop k):=fun x hx=>h x (List.mem_of_mem_drop hx)
theorem Ai(h:i < l.length)(x:Int):val (l.set i x)=val l + 18446744073709551616 ^ i * (x - nth l i):=by
 have e1:=dO (l.set i x) i (by simp; omega);have e2:=dO l i (by omega);rw[List.take_set_of_le (Nat.le_refl _),List.drop_set,if_neg (by omega),Nat.sub_self] at e1;rw[List.drop_eq_getElem_cons h,List.set_cons_zero,val] at e1;rw[List.drop_eq_getElem_cons h,val] at e2;rw[e1,e2,cO h]; grind
theorem AO(wl:Words l)(h:i < l.length){P:Int}(hP:val l < 18446744073709551616 ^ i * P):nth l i < P:=by
 have e2:=dO l i (by omega);rw[List.drop_eq_getElem_cons h,val] at e2;have h1:=cy (wl.take i);have h2:=cy (wl.drop (i + 1));have hp:=pow_pos i
 have h3:0<=18446744073709551616 ^ i * (18446744073709551616 * val (l.drop (i + 1))):=Int.mul_nonneg (Int.le_of_lt hp) (by omega);rw[Int.mul_add] at e2
 have h4:18446744073709551616 ^ i * nth l i < 18446744073709551616 ^ i * P:=by rw[cO h]; omega
 exact Int.lt_of_mul_lt_mul_left h4 (Int.le_of_lt hp)
theorem jE(k:Nat):(256:Int) ^ k=18446744073709551616 ^ (k / 8) * 2 ^ (8 * (k % 8)):=by
 have e:(18446744073709551616:Int)=256 ^ 8:=by decide
 have e2:(2:Int) ^ (8 * (k % 8))=256 ^ (k % 8):=by rw[Int.pow_mul]; rfl
 rw[e,e2,<- Int.pow_mul,<- Int.pow_add]; congr 1; omega
theorem yH{lb lz:List Int}{m k:Nat}(hb:aW lb)(hm:(lb.length + 7) / 8=m)(h:xw lb m k lz)(hk:k < lb.length) :
  bits .or .u64 (nth lz (k / 8)) (IntKind.u64.wrap (nth lb (lb.length - 1 - k) * 2 ^ (8 * (k % 8))))=nth lz (k / 8) + nth lb (lb.length - 1 - k) * 2 ^ (8 * (k % 8)) /\
  xw lb m (k + 1) (lz.set (k / 8) (nth lz (k / 8) + nth lb (lb.length - 1 - k) * 2 ^ (8 * (k % 8)))):=by
 have hl:=h.len;have hx:=hb.nth (lb.length - 1 - k);have hbd:=bF (hb.drop (lb.length - k));rw[List.length_drop,show lb.length - (lb.length - k)=k from by omega] at hbd;have hv:=h.val;have hz:=h.words.nth (k / 8);have hlt:=AO h.words (i:=k / 8) (by omega) (P:=2 ^ (8 * (k % 8))) (by rw[<- jE,hv]; exact hbd.2)
 have hS:(0:Int) < 2 ^ (8 * (k % 8)):=Int.pow_pos (by decide)
 have hT:(2:Int) ^ (8 * (k % 8)) * 256<=18446744073709551616:=by
  have:(2:Nat) ^ (8 * (k % 8))<=2 ^ 56:=Nat.pow_le_pow_right (by decide) (by omega)
  have e:((2 ^ (8 * (k % 8)):Nat):Int)=(2:Int) ^ (8 * (k % 8)):=by rw[Int.natCast_pow]; rfl
  have e2:(2:Nat) ^ 56=72057594037927936:=by decide
  omega
 have hx1:0<=nth lb (lb.length - 1 - k) * 2 ^ (8 * (k % 8)):=Int.mul_nonneg hx.1 (Int.le_of_lt hS)
 have hx2:nth lb (lb.length - 1 - k) * 2 ^ (8 * (k % 8))<=255 * 2 ^ (8 * (k % 8)):=Int.mul_le_mul_of_nonneg_right (by omega) (Int.le_of_lt hS);constructor
 ·rw[IntKind.wrap_u64,Int.emod_eq_of_lt hx1 (by omega)];rw[u64_or _ _ hz.1 hz.2 hx1 (by omega),Nat.or_comm,<- u64_or _ _ hx1 (by omega) hz.1 hz.2];rw[xf _ _ (8 * (k % 8)) _ rfl hx.1 (by omega) hz.1 hlt hz.2,Int.add_comm]
 ·refine⟨by simp[hl],h.words.set _ (by omega) (by omega),?_⟩;rw[Ai (by omega),hv,show lb.length - (k + 1)=lb.length - 1 - k from by omega,mJ (l:=lb) (i:=lb.length - 1 - k) (by omega),show lb.length - 1 - k + 1=lb.length - k from by omega,show lb.length - 1 - (lb.length - 1 - k)=k from by omega,jE k];grind
theorem zG(ao:Option Addr)(n c b o:Nat)(lb:List Int)(w:World)(hl:lb.length=n)(hn:0 < n)(ha:AtB w ao b o lb)(h0:nth lb 0=0) :
  Calls Tryz.prog 295 #[.slice ao n c] w fun e w'=>e=.returned (.tuple #[.slice none 0 0,.int .i64 13])/\w'=w:=by
 rcases ha.loc with e | rfl
 ·subst e; simp at hl; omega
 have hc:=ha.cell 0 (by omega);rw[h0,Nat.add_zero] at hc;go_enter Tryz.func295,Tryz.ntmps295;go_wp2;go_ret2;exact⟨rfl,rfl⟩
theorem vC(ao:Option Addr)(n c b o:Nat)(lb:List Int)(w:World)(hl:lb.length=n)(hbig:n<=1099511627776)(ho:aW lb)(ha:AtB w ao b o lb)(h0:0 < n->nth lb 0≠0) :
  Calls Tryz.prog 295 #[.slice ao n c] w fun e w'=>∃ v r,e=.returned (.tuple #[v,.int .i64 0])/\tH w w' v r/\IsN r (bL lb)/\r.length<=n/\Below w.heap.size w w':=by
 obtain⟨m,hm⟩:∃ m:Nat,((n:Int) + 7) / 8=m:=⟨(n + 7) / 8,by omega⟩
 have hm2:m<=n:=by omega
 have hne:lb=[]\/b≠w.heap.size:=by
  rcases ha.lt with e | e
  ·exact .inl e
  ·exact .inr (by omega)
 by_cases hn:0 < n
 ·rcases ha.loc with e | rfl
  ·subst e; simp at hl; omega
  have hc:=ha.cell 0 (by omega);rw[Nat.add_zero] at hc
  have hcz:(nth lb 0 == 0)=false:=beq_eq_false_iff_ne.2 (h0 hn)
  have hfin:nth lb 0≠0:=h0 hn;have HF:=(show Hid _ from hfin)
  clear hfin h0;go_enter Tryz.func295,Tryz.ntmps295;go_wp2_with (at_make; refine iA rfl _ _ rfl m _ _ rfl rfl (by omega) (by omega) (by omega) ?_; intro w1 hrow hbel hsz);have hatb:=ha.keep hbel;clear hc hcz;go_loopw [22] (fun ti wr=>∃ (k:Nat) (lz:List Int),k<=n/\ti=.int .i64 k/\xw lb m k lz/\At wr (some ⟨w.heap.size,0,none⟩) w.heap.size 0 lz/\Wr w.heap.size 0 m w1 wr) (fun ti _=>n - (intOf ti).toNat)
  case atStart=>exact⟨0,_,Nat.zero_le _,rfl,⟨by simp,ri _,by rw[Nat.sub_zero,List.drop_length,jq fun i=>by simp[nth,List.getElem?_replicate]; split<;>rfl]; rfl⟩,hrow.at,Wr.refl _ _ _ _⟩
  case round =>
   obtain⟨k,lz,hk,rfl,hinv,hat,hwr⟩:=hrel;have hlen:=hinv.len;by_cases hlt:k < n
   ·obtain⟨i,hi⟩:∃ i:Nat,(k:Int) / 8=i:=⟨k / 8,by omega⟩
    obtain⟨j,hj⟩:∃ j:Nat,(k:Int) % 8=j:=⟨k % 8,by omega⟩
    obtain⟨h,hh⟩:∃ h:Nat,(n:Int) - 1 - k=h:=⟨n - 1 - k,by omega⟩
    have hi1:(i:Int) < m:=by omega
    have hh1:(h:Int) < n:=by omega
    have hj1:j < 8:=by omega
    have hcz:=hat.cell i (by omega);have hcb:=(hatb.wr hwr hne).cell h (by omega);have hfr:=hwr.free (hrow.free 0 m) i (by omega);rw[Nat.zero_add] at hcz hfr;have hst:=yH ho (m:=m) (by omega) hinv (by omega);rw[show k / 8=i from by omega,show k % 8=j from by omega,show lb.length - 1 - k=h from by omega] at hst;obtain⟨hst1,hst2⟩:=hst;have HS:=(show Hid _ from hst2)
    have HA:=(show Hid _ from hat)
    have HW:=(show Hid _ from hwr)
    have hxx:=ho.nth h;clear hst2 hat hwr hinv hrow hatb ho;generalize nth lz i=z at *;generalize nth lb h=x at *;go_wp2_with fail;go_region;go_wp2;rw[Nat.mul_comm j 8,hst1];refine⟨⟨k + 1,_,by omega,by go_num,HS.out,?_,?_⟩,by simp[intOf]; omega⟩
    ·have:=(HA.out.setCell (i:=i) (by omega) (z + x * 2 ^ (8 * j))).drew;rwa [Nat.zero_add] at this
    ·exact(HW.out.setCell (by omega) (by omega) _).drew
   ·have hkn:k=n:=by omega
    subst hkn;have hv:=hinv.val;rw[<- hl,Nat.sub_self,List.drop_zero] at hv;have hfz:=hwr.free (hrow.free 0 m);have HB:=hbel.trans (hwr.below (Nat.le_refl _));have hbb:=bF ho;have hge:=sX ho (fun e=>by subst e; simp at hl; omega) HF.out
    have hnm:aT lz=lz.length:=by
     have h1:=j6 lz;by_cases c:aT lz < lz.length
     ·have h2:=jH hinv.words;have h3:=ql (show aT lz<=m - 1 by omega)
      have h4:(18446744073709551616:Int) ^ (m - 1)<=256 ^ (lb.length - 1):=by
       rw[show (18446744073709551616:Int)=256 ^ 8 from by decide,<- Int.pow_mul];exact ga (by omega)
      rw[hv] at h2;omega
     ·omega
    have HI:IsN lz (bL lb):=⟨hinv.words,hnm,hv⟩
    clear hinv hrow hwr hbel hatb hv hbb hge hnm;go_wp2;go_ret2;exact⟨_,lz,rfl,tH.of hlen.symm (Nat.le_refl _) (Nat.le_refl _) hat hfz,HI,by omega,HB⟩
 ·have hn0:n=0:=by omega
  subst hn0
  have e0:lb=[]:=List.eq_nil_of_length_eq_zero hl;subst e0
  have hm0:m=0:=by omega
  subst hm0;clear hm ha hne;go_enter Tryz.func295,Tryz.ntmps295;go_wp2_with (at_make; refine iA rfl _ _ rfl 0 _ _ rfl rfl (by omega) (by omega) (by omega) ?_; intro w1 hrow hbel hsz);refine wp_loop_rounds 1 ?_
  rw[rounds_succ];go_wp2;go_ret2;exact⟨_,[],rfl,tH.of rfl (Nat.le_refl _) (Nat.le_refl _) hrow.at (hrow.free _ _),wJ,by simp,hbel⟩
end
end
section
open Go.RowKit Lim
end
section
open Go.RowKit Lim
end
section
open Go.RowKit Lim
section
variable {w w':World}{ao ao':Option Addr}{n c g:Nat}{x:Int}{v:Value}{tmps:Array Value}
structure fg(w:World)(ao:Option Addr)(n c:Nat)(x:Int):Prop where
 ex:∃ b o l,l.length=n/\n<=c/\Words l/\At w ao b o l/\val l=x
structure gb(w:World)(ao:Option Addr)(n c:Nat)(x:Int):Prop where
 ex:∃ b o l,l.length=n/\n<=c/\IsN l x/\At w ao b o l
theorem gb.a(h:gb w ao n c x):fg w ao n c x:=by
 obtain⟨b,o,l,h1,h2,h3,h4⟩:=h.ex;exact⟨b,o,l,h1,h2,h3.1,h4,h3.2.2⟩
theorem fg.keep(h:fg w ao n c x)(hb:Below w.heap.size w w'):fg w' ao n c x:=by
 obtain⟨b,o,l,h1,h2,h3,h4,h5⟩:=h.ex;exact⟨b,o,l,h1,h2,h3,h4.keep hb,h5⟩
theorem gb.keep(h:gb w ao n c x)(hb:Below w.heap.size w w'):gb w' ao n c x:=by
 obtain⟨b,o,l,h1,h2,h3,h4⟩:=h.ex;exact⟨b,o,l,h1,h2,h3,h4.keep hb⟩
theorem pP(w:World):gb w none 0 0 0:=⟨0,0,[],rfl,Nat.le_refl _,sy,.inl rfl,fun i hi=>by simp at hi⟩
theorem ai{wa:World}(b:Below w.heap.size w wa)(h:Below wa.heap.size wa w'):Below w.heap.size w w':=b.trans (h.mono b.size)
theorem nSame{n' c':Nat}{y:Int}(h:gb w ao n c x)(h':gb w ao' n' c' y)(hn:n<=4398046511104)(hn':n'<=4398046511104) :
  Calls Tryz.prog 148 #[.slice ao n c,.slice ao' n' c'] w fun e w'=>e=.returned (.bool (decide (x=y)))/\Below w.heap.size w w':=by
 obtain⟨b,o,l,h1,h2,h3,h4⟩:=h.ex;obtain⟨b',o',l',h1',h2',h3',h4'⟩:=h'.ex;have t:=zU ao n c b o ao' n' c' b' o' l l' w h1 h1' hn hn' h4 h4'
 have e:eqB l l'=decide (x=y):=by
  unfold eqB;by_cases k:x=y
  ·rw[decide_eq_true k,decide_eq_true (qu h3 (k▸h3'))]
  ·rw[decide_eq_false k,decide_eq_false (fun q=>k (by rw[<- h3.2.2,<- h3'.2.2,q]))]
 rw[e] at t;exact t
structure Slot(w:World)(g:Nat)(v:Value)(t:TypeId):Prop where
 blk:w.heap[g]? = some (.cells #[v] t (0,0))
theorem Slot.cell{t:TypeId}(h:Slot w g v t):w.cell? ⟨g,0,none⟩=some v:=cell_of_one h.blk
theorem Slot.free{t:TypeId}(h:Slot w g v t):w.frozen? ⟨g,0,none⟩=false:=free_of_one h.blk
theorem Slot.lt{t:TypeId}(h:Slot w g v t):g < w.heap.size:=lt_of_block h.blk
theorem Slot.keep{t:TypeId}(h:Slot w g v t)(hb:Below w.heap.size w w'):Slot w' g v t:=⟨by rw[hb.block g h.lt]; exact h.blk⟩
theorem Slot.put{t:TypeId}(h:Slot w g v t)(u:Value):Slot (w.setCell ⟨g,0,none⟩ u) g u t:=⟨one_setCell h.blk⟩
theorem kG(w:World)(v:Value)(t:TypeId):Slot (w.alloc (.cells #[v] t)) w.heap.size v t:=⟨by
 show (w.heap.push _)[w.heap.size]? = _
 rw[Array.getElem?_push_size]⟩
theorem Slot.alloc{t:TypeId}(h:Slot w g v t)(o:Obj):Slot (w.alloc o) g v t:=h.keep (aa w o)
theorem qv(w:World)(o:Obj)(v:Value)(t:TypeId):Slot ((w.alloc o).alloc (.cells #[v] t)) (w.heap.size + 1) v t:=by
 have:=kG (w.alloc o) v t;rwa [show (w.alloc o).heap.size=w.heap.size + 1 by simp] at this
theorem below2(w:World)(o o':Obj):Below w.heap.size w ((w.alloc o).alloc o'):=ai (aa w o) (aa _ o')
theorem yu:(Tryz.prog.info? 49).map (·.size)=some 1:=by kernel_rfl
theorem uL : ∃ f, Tryz.prog.underlying 49 = some (.struct f) := by
  cases h : Tryz.prog.underlying 49 with
  | none => exact absurd h (by have : (Tryz.prog.underlying 49).isSome = true := by kernel_rfl
                               intro e; rw[e] at this; simp at this)
  | some d =>
    have : (match Tryz.prog.underlying 49 with | some (.struct _) => true | _ => false) = true := by kernel_rfl
    rw[h] at this
    cases d <;> first | exact⟨_, rfl⟩ | simp at this
theorem vq{t:TypeId}(s:Slot w g v t):(loadVar 49 ⟨g,0,none⟩).run Tryz.prog w=.ok (.agg #[v]) w:=by
 obtain⟨f,hu⟩:=uL;exact run_loadVar_row w g t 49 #[v] (0,0) _ s.blk hu rfl yu
theorem nI{fn:Func}{p:Tmp}(h:fn.results=#[.cell p 49]){t:TypeId}(hp:tmps.getD p undef=.pointer (some ⟨g,0,none⟩))(s:Slot w g v t) :
  (results fn tmps).run Tryz.prog w=.ok (.agg #[v]) w:=by
 have hp':tmps[p]?.getD undef=.pointer (some ⟨g,0,none⟩):=by simpa using hp
 simp[results,h,hp',asAddr,vq s]
end
end
section
open Go.RowKit Lim
section
variable {ops:Array Oper} {Q:Exit->Act->World->Prop} {S:World->Prop} {fuel:Nat} {listed:Array Bool} {a:Act} {w:World}
section
variable {Qc:Ending->World->Prop}
def fW(ops:Array Oper)(listed:Array Bool)(a:Act)(i:Nat)(d:Option Tmp):Bool :=
 Region.noSelect ops && Region.free .any ops listed i && (Region.ready .any ops listed).contains i && decide (i < ops.size) && Region.wanted (ops.getD i default) (yielded ops a.tmps) && decide ((ops.getD i default).dst=d)
def fF(ops:Array Oper)(listed:Array Bool)(a:Act)(i:Nat)(d:Option Tmp):Bool :=
 decide (Region.ready .any ops listed=[i]) && decide (i < ops.size) && Region.wanted (ops.getD i default) (yielded ops a.tmps) && decide ((ops.getD i default).dst=d)
theorem bB{i:Nat}(h:i < ops.size):ops[i]? = some (ops.getD i default):=by
 simp[Array.getD,h]
theorem ae(i:Nat)(d:Option Tmp)(v:Value)(hc:fW ops listed a i d=true)(hy:∀ w',S w'->(execOp a.eval (ops.getD i default)).run Tryz.prog w'=.ok (.value v) w')(hQ:∀ c a w,Q (.panic c) (a.put d v) w->Q (.panic c) a w)(hS:S w)(h:wpAnyH Tryz.prog .any ops Q S fuel (listed.setIfInBounds i true) (a.put d v) w):wpAnyH Tryz.prog .any ops Q S (fuel + 1) listed a w:=by
 simp only[fW,Bool.and_eq_true,decide_eq_true_eq] at hc;obtain⟨⟨⟨⟨⟨h1,h2⟩,h3⟩,h4⟩,h5⟩,h6⟩:=hc;subst h6;exact wpAnyH_take (bB h4) h1 h2 h3 hQ (.inl ⟨h5,hy⟩) hS h
theorem aB(i:Nat)(d:Option Tmp)(v:Value)(T:TypeId)(k g o:Nat)(hc:fW ops listed a i d=true)(ho:(ops.getD i default).op=.load T (.tmp k))(hp:a.eval (.tmp k)=.pointer (some ⟨g,o,none⟩))(hl:∀ w',S w'->(loadVar T ⟨g,o,none⟩).run Tryz.prog w'=.ok v w')(hQ:∀ c a w,Q (.panic c) (a.put d v) w->Q (.panic c) a w)(hS:S w)(h:wpAnyH Tryz.prog .any ops Q S fuel (listed.setIfInBounds i true) (a.put d v) w):wpAnyH Tryz.prog .any ops Q S (fuel + 1) listed a w :=
 ae i d v hc (fun w' hS'=>by
  have:=hl w' hS';simp only[execOp,ho,hp];simp[Instr.loadAt,Instr.sureAddr,Result.andThen,this]) hQ hS h
theorem aM(i:Nat)(d:Option Tmp)(f:FuncId)(args:Array Value)(hc:fF ops listed a i d=true)(hrun:(execOp a.eval (ops.getD i default)).run Tryz.prog w=.ok (.enter f args) w)(hcall:Calls Tryz.prog f args w Qc)(hk:∀ e w',Qc e w'->∃ v,e=.returned v/\S w'/\wpAnyH Tryz.prog .any ops Q S fuel (listed.setIfInBounds i true) (a.put d v) w') :
  wpAnyH Tryz.prog .any ops Q S (fuel + 1) listed a w:=by
 simp only[fF,Bool.and_eq_true,decide_eq_true_eq] at hc;obtain⟨⟨⟨h3,h4⟩,h5⟩,h6⟩:=hc;subst h6;refine wpAnyH_all h3 (by simp) fun j hj => ?_
 obtain rfl:j=i:=by simpa using hj
 refine wpOp_step (bB h4) fun K hK => ?_
 rw[if_pos h5];unfold Oper.wp;rw[hrun];refine hcall.mono fun e w' he => ?_
 obtain⟨v,rfl,hS',hw⟩:=hk e w' he;exact hK _ _ ⟨hS',hw⟩
theorem aP(hr:Region.ready .any ops listed=[])(h:Q .normal a w):wpAnyH Tryz.prog .any ops Q S fuel listed a w:=wpAnyH_done hr h fuel
theorem aU{id:Nat}(hm:Tryz.prog.follows .mixedOrders=true)(hS:S w.drew)(h:wpAnyH Tryz.prog .any ops Q S ops.size (Array.replicate ops.size false) a w.drew):(Code.region id ops true).wp Tryz.prog Q a w :=
 wp_region_held_drew hm hS fun _=>h
end
end
end
section
open Go.RowKit Lim
section
variable {w w':World}{g:Nat}{cs ds:List Value}
structure Box(w:World)(g:Nat)(cs:List Value)(t:TypeId):Prop where
 blk:w.heap[g]? = some (.cells cs.toArray t (0,0))
theorem Box.lt{t:TypeId}(h:Box w g cs t):g < w.heap.size:=lt_of_block h.blk
theorem Box.keep{t:TypeId}(h:Box w g cs t)(hb:Below w.heap.size w w'):Box w' g cs t:=⟨by rw[hb.block g h.lt]; exact h.blk⟩
theorem Box.drew{t:TypeId}(h:Box w g cs t):Box w.drew g cs t:=⟨h.blk⟩
theorem gw(w:World)(cs:List Value)(t:TypeId):Box (w.alloc (.cells cs.toArray t)) w.heap.size cs t:=⟨by
 show (w.heap.push _)[w.heap.size]? = _
 rw[Array.getElem?_push_size]⟩
theorem Box.row{t:TypeId}(h:Box w g cs t):Box (w.setRow g ds.toArray) g ds t:=⟨by rw[setRow_heap w g _ _ _ _ h.blk]⟩
theorem l9{B:Nat}(h:Below B w w')(hB:B<=g)(ds:Array Value):Below B w (w'.setRow g ds) :=
 h.trans ⟨rfl,rfl,rfl,by simp[World.setRow],fun k hk=>setRow_other w' g k ds (by omega)⟩
theorem Box.off{g':Nat}{t:TypeId}(h:Box w g cs t)(hne:g≠g')(hw:∀ k,k≠g'->w'.heap[k]? = w.heap[k]?):Box w' g cs t:=⟨by rw[hw g hne]; exact h.blk⟩
end
section
variable {ops:Array Oper} {Q:Exit->Act->World->Prop} {S:World->Prop} {fuel:Nat} {listed:Array Bool} {a:Act} {w:World}
section
variable {rs:List Nat}
def ew(ops:Array Oper)(a:Act)(i:Nat)(d:Option Tmp):Bool :=
 decide (i < ops.size) && Region.wanted (ops.getD i default) (yielded ops a.tmps) && decide ((ops.getD i default).dst=d)
theorem aC(rs:List Nat)(hr:Region.ready .any ops listed=rs)(hne:rs≠[])(h:AllReadyH Tryz.prog .any ops Q S fuel listed a w rs):wpAnyH Tryz.prog .any ops Q S (fuel + 1) listed a w:=wpAnyH_ready hr hne h
theorem aL:AllReadyH Tryz.prog .any ops Q S fuel listed a w []:=AllReadyH.nil
theorem aZ(i:Nat)(d:Option Tmp)(v:Value)(w1:World)(hc:ew ops a i d=true)(hrun:(execOp a.eval (ops.getD i default)).run Tryz.prog w=.ok (.value v) w1)(hS1:S w1)(h:wpAnyH Tryz.prog .any ops Q S fuel (listed.setIfInBounds i true) (a.put d v) w1)(hs:AllReadyH Tryz.prog .any ops Q S fuel listed a w rs):AllReadyH Tryz.prog .any ops Q S fuel listed a w (i :: rs):=by
 simp only[ew,Bool.and_eq_true,decide_eq_true_eq] at hc;obtain⟨⟨h4,h5⟩,h6⟩:=hc;subst h6;refine AllReadyH.cons (bB h4) (fun K hK => ?_) hs;rw[if_pos h5];unfold Oper.wp;rw[hrun]
 show K (a.put (ops.getD i default).dst v) w1
 exact hK.out _ _ hS1 fun _=>h
theorem cJ(i:Nat)(w1:World)(hc:ew ops a i none=true)(hrun:(execOp a.eval (ops.getD i default)).run Tryz.prog w=.ok .skip w1)(hS1:S w1)(h:wpAnyH Tryz.prog .any ops Q S fuel (listed.setIfInBounds i true) (a.put none undef) w1)(hs:AllReadyH Tryz.prog .any ops Q S fuel listed a w rs):AllReadyH Tryz.prog .any ops Q S fuel listed a w (i :: rs):=by
 simp only[ew,Bool.and_eq_true,decide_eq_true_eq] at hc;obtain⟨⟨h4,h5⟩,h6⟩:=hc;refine AllReadyH.cons (bB h4) (fun K hK => ?_) hs;rw[if_pos h5];unfold Oper.wp;rw[hrun]
 show K (a.put (ops.getD i default).dst undef) w1
 rw[h6];exact hK.out _ _ hS1 fun _=>h
theorem p9(i:Nat)(d:Option Tmp)(T:TypeId)(cs:List Value)(hc:ew ops a i d=true)(hrun:(execOp a.eval (ops.getD i default)).run Tryz.prog w=.ok (.value (.pointer (some ⟨w.heap.size,0,none⟩))) (w.alloc (.cells cs.toArray T)))(hk:∀ V,Box V w.heap.size cs T->Below w.heap.size w V->S V/\wpAnyH Tryz.prog .any ops Q S fuel (listed.setIfInBounds i true) (a.put d (.pointer (some ⟨w.heap.size,0,none⟩))) V)(hs:AllReadyH Tryz.prog .any ops Q S fuel listed a w rs):AllReadyH Tryz.prog .any ops Q S fuel listed a w (i :: rs):=by
 obtain⟨h1,h2⟩:=hk _ (gw w cs T) (aa w _);exact aZ i d _ _ hc hrun h1 h2 hs
end
end
end
section
open Go.RowKit Lim
section
variable {w:World}{g m:Nat}{l r:List Int}{ops:Array Oper}{rest:List Oper}{V:Int}{ao:Option Addr}
theorem oI:(Tryz.prog.info? 5).map (fun i=>(i.zero,i.size,i.bytes))=some (some (.int .u8 0),1,1):=by kernel_rfl
theorem du:Tryz.prog.underlying 40=some (.slice 5):=by kernel_rfl
def rp(w:World)(g:Nat)(l:List Int):Prop:=w.heap[g]? = some (.cells (l.map (Value.int .u8)).toArray 5 (0,0))
theorem rp.at(h:rp w g l):AtB w (some ⟨g,0,none⟩) g 0 l :=
 ⟨.inr rfl,fun i hi=>by
  unfold rp at h;simp only[World.cell?,h];simp[cO hi,hi]⟩
theorem rp.free(h:rp w g l)(o n:Nat):pR w g o n:=by
 intro i _;unfold rp at h;simp[World.frozen?,h]
theorem rT(n:Nat):madeCells (Value.int .u8 0).cells n=((List.replicate n 0).map (Value.int .u8)).toArray:=by
 apply Array.ext
 ·simp[size_madeCells]
 ·intro j h1 h2;simp[madeCells,Value.cells,Nat.mod_one]
theorem nZ{o:Oper}{a:Act}{Q:Exit->Act->World->Prop}(hg:o.guard=none)(l c:Operand)(hop:o.op=Op.makeSlice 40 l c)(n:Nat)(L C:Int)(hl:a.eval l=.int .i64 L)(hc:a.eval c=.int .i64 C)(hL:L=(n:Int))(hC:C=(n:Int))(hn:n<=17592186044416)(hK:∀ w',rp w' w.heap.size (List.replicate n 0)->Below w.heap.size w w'->w'.heap.size=w.heap.size + 1->wpList Tryz.prog ops Q rest (a.put o.dst (.slice (some ⟨w.heap.size,0,none⟩) n n)) w') :
  wpList Tryz.prog ops Q (o :: rest) a w:=by
 obtain⟨i,hi,hz,hs,hb⟩:=info_parts oI;refine wpList_plain hg fun K hK' => ?_
 have hrun:=run_make (P:=Tryz.prog) w 40 5 i (.int .u8 0) du hi hz .i64 .i64 (n:Int) (n:Int) (by omega) (by omega) (by rw[hb]; omega) (by omega);subst hL;subst hC;unfold Oper.wp;simp only[execOp,hop,hl,hc];simp[hrun,Result.andThen];refine hK' _ _ (hK _ ?_ ?_ ?_)
 ·show (w.heap.push _)[w.heap.size]? = _
  rw[Array.getElem?_push_size,hs,Nat.mul_one,rT]
 ·exact(Below.refl _ _).alloc (Nat.le_refl _) _
 ·simp
theorem lx(V:Int)(hV:0<=V)(k:Nat):V % 256 ^ (k + 1)=(V / 256 ^ k % 256) * 256 ^ k + V % 256 ^ k:=by
 obtain⟨v,rfl⟩:=Int.eq_ofNat_of_zero_le hV
 have e:∀ j:Nat,(256:Int) ^ j=((256 ^ j:Nat):Int):=fun j=>by rw[Int.natCast_pow]; rfl
 rw[e,e];have:=Nat.mod_mul (x:=v) (a:=256 ^ k) (b:=256);rw[<- Nat.pow_succ] at this
 have h2:((v % 256 ^ (k + 1):Nat):Int)=((v % 256 ^ k + 256 ^ k * (v / 256 ^ k % 256):Nat):Int):=by rw[this]
 rw[Int.natCast_add,Int.natCast_mul] at h2;simp only[Int.natCast_emod,Int.natCast_ediv] at h2;rw[h2,Int.add_comm,Int.mul_comm]; rfl
theorem jJ(hV:0<=V)(h:∀ i,i < r.length->nth r (r.length - 1 - i)=V / 256 ^ i % 256):∀ k,k<=r.length->bL (r.drop (r.length - k))=V % 256 ^ k
 | 0,_=>by rw[Nat.sub_zero,List.drop_length]; simp[bL]
 | k + 1,hk=>by
  have ih:=jJ hV h k (by omega);rw[show r.length - (k + 1)=r.length - 1 - k from by omega,mJ (by omega),show r.length - 1 - k + 1=r.length - k from by omega,ih,h k (by omega),show r.length - 1 - (r.length - 1 - k)=k from by omega,lx V hV k]
theorem zo(wl:Words l)(i:Nat)(hi:i / 8 < l.length):nth l (i / 8) / 2 ^ (8 * (i % 8)) % 256=val l / 256 ^ i % 256:=by
 have e2:=dO l (i / 8) (by omega);rw[List.drop_eq_getElem_cons hi,val,<- cO hi] at e2;have h1:=cy (wl.take (i / 8));have h2:=od (wl.take (i / 8));rw[List.length_take,Nat.min_eq_left (by omega)] at h2;have hp:=pow_pos (i / 8)
 have hS:(0:Int) < 2 ^ (8 * (i % 8)):=Int.pow_pos (by decide)
 have hB:(18446744073709551616:Int)=2 ^ (8 * (i % 8)) * (256 * 2 ^ (56 - 8 * (i % 8))):=by
  rw[show (256:Int)=2 ^ 8 from rfl,<- Int.pow_add,<- Int.pow_add,show 8 * (i % 8) + (8 + (56 - 8 * (i % 8)))=64 from by omega]; rfl
 rw[jE,<- Int.ediv_ediv_of_nonneg (Int.le_of_lt hp),e2,Int.add_mul_ediv_left _ _ (by omega),Int.ediv_eq_zero_of_lt h1 h2,Int.zero_add];generalize nth l (i / 8)=x at *;generalize val (l.drop (i / 8 + 1))=y at *
 conv=>rhs; rw[hB]
 rw[Int.mul_assoc,Int.add_mul_ediv_left _ _ (by omega),Int.mul_assoc,Int.add_mul_emod_self_left]
structure lC(V:Int)(m k:Nat)(r:List Int):Prop where
 len:r.length=m
 oct:aW r
 dig:∀ i,i < k->nth r (m - 1 - i)=V / 256 ^ i % 256
theorem lC.step{k:Nat}{x:Int}(h:lC V m k r)(hk:k < m)(hx:x=V / 256 ^ k % 256):lC V m (k + 1) (r.set (m - 1 - k) x):=by
 have hl:=h.len;refine⟨by simp[hl],fun y hy => ?_,fun i hi => ?_⟩
 ·rcases List.mem_or_eq_of_mem_set hy with e | e
  ·exact h.oct y e
  ·subst e; rw[hx]; exact⟨Int.emod_nonneg _ (by decide),Int.emod_lt_of_pos _ (by decide)⟩
 ·rw[j8 (by omega)];by_cases e:i=k
  ·subst e; rw[if_pos rfl]; exact hx
  ·rw[if_neg (by omega)]; exact h.dig i (by omega)
theorem lC.done(h:lC V m m r)(hV:0<=V)(h1:V < 256 ^ m)(h2:m≠0->256 ^ (m - 1)<=V):IsB r V:=by
 have hl:=h.len;have hv:=jJ hV (r:=r) (fun i hi=>by rw[hl]; exact h.dig i (by omega)) m (by omega);rw[hl,Nat.sub_self,List.drop_zero,Int.emod_eq_of_lt hV h1] at hv;refine⟨h.oct,fun hne => ?_,hv⟩
 have hm:m≠0:=fun e=>hne (List.eq_nil_of_length_eq_zero (by omega))
 have hd:=h.dig (m - 1) (by omega);rw[show m - 1 - (m - 1)=0 from by omega] at hd;rw[hd]
 have hp:(0:Int) < 256 ^ (m - 1):=Int.pow_pos (by decide)
 have q1:1<=V / 256 ^ (m - 1):=by rw[Int.le_ediv_iff_mul_le hp]; have:=h2 hm; omega
 have q2:V / 256 ^ (m - 1) < 256:=by
  rw[Int.ediv_lt_iff_lt_mul hp,Int.mul_comm,<- Int.pow_succ,show (m - 1).succ=m from by omega]; exact h1
 rw[Int.emod_eq_of_lt (by omega) q2]; omega
theorem me(hV:0<=V):V < 256 ^ ((bitLen V.toNat + 7) / 8)/\((bitLen V.toNat + 7) / 8≠0->256 ^ ((bitLen V.toNat + 7) / 8 - 1)<=V):=by
 obtain⟨v,rfl⟩:=Int.eq_ofNat_of_zero_le hV;rw[Int.toNat_natCast];have hs:=bitLen_spec v
 have e:∀ j:Nat,(256:Int) ^ j=((2 ^ (8 * j):Nat):Int):=fun j=>by rw[Nat.pow_mul,Int.natCast_pow]; rfl
 rw[e,e];constructor
 ·have:=Nat.pow_le_pow_right (n:=2) (by decide) (show bitLen v<=8 * ((bitLen v + 7) / 8) by omega);have h1:=hs.1;omega
 ·intro hm
  have hv0:v≠0:=by intro e; subst e; simp[bitLen] at hm
  have:=Nat.pow_le_pow_right (n:=2) (by decide) (show 8 * ((bitLen v + 7) / 8 - 1)<=bitLen v - 1 by omega);have h1:=hs.2 hv0;omega
theorem yK.of{w':World}{n c b o:Nat}(hn:n=l.length)(h1:n<=c)(h2:w.heap.size<=b)(h3:AtB w' ao b o l)(h4:pR w' b o n):yK w w' (.slice ao n c) l:=by
 subst hn; exact⟨ao,b,o,c,rfl,h1,h2,h3,h4⟩
theorem tZ(ao:Option Addr)(n c b o:Nat)(l:List Int)(w:World)(hl:l.length=n)(hc:n<=c)(hbig:n<=1099511627776)(wl:Words l)(ha:At w ao b o l) :
  Calls Tryz.prog 270 #[.slice ao n c] w fun e w'=>∃ v r,e=.returned v/\yK w w' v r/\IsB r (val l)/\r.length=(bitLen (val l).toNat + 7) / 8/\r.length<=8 * n/\Below w.heap.size w w':=by
 have hV:=cy wl;obtain⟨hB1,hB2⟩:=me hV;have t1:=vI ao n c b o l w hl hc hbig wl ha
 have hb64:bitLen (val l).toNat<=64 * n:=by
  have h1:=od wl;rw[hl,bpow] at h1;have h2:=(bitLen_spec (val l).toNat).2;by_cases c:bitLen (val l).toNat<=64 * n
  ·exact c
  ·have h3:(val l).toNat≠0:=by intro e; rw[e] at c; simp[bitLen] at c
   have h4:=Nat.pow_le_pow_right (n:=2) (by decide) (show 64 * n<=bitLen (val l).toNat - 1 by omega);have:=h2 h3;omega
 obtain⟨m,hm⟩:∃ m:Nat,((bitLen (val l).toNat:Int) + 7) / 8=m:=⟨(bitLen (val l).toNat + 7) / 8,by omega⟩
 have hm':(bitLen (val l).toNat + 7) / 8=m:=by omega
 rw[hm'] at hB1 hB2 ⊢;generalize bitLen (val l).toNat=L at *;have HM:=(show Hid ((L + 7) / 8=m) from hm')
 have hm8:m<=8 * n:=by omega
 clear hm';go_enter Tryz.func270,Tryz.ntmps270;go_wp2_with fail;refine t1.mono ?_
 rintro e w1 ⟨rfl,hb1⟩;have ha1:=ha.keep hb1;have hsz1:=hb1.size;clear t1 ha;go_wp2_with (at_make; refine nZ rfl _ _ rfl m _ _ rfl rfl (by omega) (by omega) (by omega) ?_; intro w2 hrow hbel hsz);have ha2:=ha1.keep hbel
 have hne:l=[]\/b≠w1.heap.size:=by
  rcases ha1.lt with e | e
  ·exact .inl e
  ·exact .inr (by omega)
 clear ha1;go_loopw [12] (fun ti wr=>∃ (k:Nat) (r:List Int),k<=m/\ti=.int .i64 k/\lC (val l) m k r/\AtB wr (some ⟨w1.heap.size,0,none⟩) w1.heap.size 0 r/\Wr w1.heap.size 0 m w2 wr) (fun ti _=>m - (intOf ti).toNat)
 case atStart=>exact⟨0,_,Nat.zero_le _,rfl,⟨by simp,fun x hx=>by rw[List.eq_of_mem_replicate hx]; decide,fun i hi=>by omega⟩,hrow.at,Wr.refl _ _ _ _⟩
 case round =>
  obtain⟨k,r,hk,rfl,hinv,hat,hwr⟩:=hrel;have hlen:=hinv.len;by_cases hlt:k < m
  ·obtain⟨i,hi⟩:∃ i:Nat,(k:Int) / 8=i:=⟨k / 8,by omega⟩
   obtain⟨j,hj⟩:∃ j:Nat,(k:Int) % 8=j:=⟨k % 8,by omega⟩
   obtain⟨h,hh⟩:∃ h:Nat,(m:Int) - 1 - k=h:=⟨m - 1 - k,by omega⟩
   have hi1:(i:Int) < n:=by omega
   have hh1:(h:Int) < m:=by omega
   have hj1:j < 8:=by omega
   rcases ha2.loc with e | rfl
   ·subst e; simp at hl; omega
   have hcz:=(ha2.wr hwr hne).cell i (by omega);have hfr:=hwr.free (hrow.free 0 m) h (by omega);have hco:=hat.cell h (by omega);rw[Nat.zero_add] at hfr hco;have hx:=wl.nth i;have hby:=zo wl k (by omega);rw[show k / 8=i from by omega,show k % 8=j from by omega] at hby
   have HS:Hid (lC (val l) m (k + 1) (r.set h (nth l i / 2 ^ (8 * j) % 256))):=by
    have:=hinv.step (x:=nth l i / 2 ^ (8 * j) % 256) hlt hby
    rwa [show m - 1 - k=h from by omega] at this
   have HA:=(show Hid _ from hat)
   have HW:=(show Hid _ from hwr)
   clear hat hwr hinv hrow ha2 wl hby
   generalize nth l i=x at *;go_wp2_with fail;rw[Nat.mul_comm j 8];refine⟨⟨k + 1,_,by omega,by go_num,HS.out,?_,?_⟩,by simp[intOf]; omega⟩
   ·have:=HA.out.setCell (i:=h) (by omega) (x / 2 ^ (8 * j) % 256);rwa [Nat.zero_add] at this
   ·exact HW.out.setCell (by omega) (by omega) _
  ·have hkn:k=m:=by omega
   subst hkn;have HI:=hinv.done hV hB1 hB2;have hfz:=hwr.free (hrow.free 0 k);have HB:=(hb1.trans (hbel.mono hsz1)).trans (hwr.below hsz1);clear hinv hrow hwr hbel ha2 hb1;go_wp2;go_ret;exact⟨_,r,rfl,yK.of hlen.symm (Nat.le_refl _) hsz1 hat hfz,HI,by omega,by omega,HB⟩
end
end
end Go.Proofs.YtliajmpchofiiaaGreat
