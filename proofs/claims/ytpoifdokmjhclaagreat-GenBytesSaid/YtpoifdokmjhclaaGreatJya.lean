import Derived.Test.YtpoifdokmjhclaaGreatJ00
import Derived.WalkSpells
import Derived.WalkLawsBesides
import Derived.Laws.CopyOwn
import Derived.BigQuiet
import Derived.Deep.RegionHeld3
set_option maxRecDepth 100000
set_option maxHeartbeats 8000000
namespace Go.Proofs.YtpoifdokmjhclaaGreat
section
namespace Lim
section
variable {l a b:List Int}{i k:Nat}{x:Int}
def nth(l:List Int)(i:Nat):Int:=l.getD i 0
def val:List Int->Int
 | []=>0
 | x :: l=>x+18446744073709551616 * val l
def Words(l:List Int):Prop:=∀ x∈l,0<=x/\x < 18446744073709551616
def aE:List Int->Nat
 | []=>0
 | x :: l=>if aE l=0 then (if x=0 then 0 else 1) else aE l+1
def norm(l:List Int):List Int:=l.take (aE l)
def IsN(l:List Int)(n:Int):Prop:=Words l/\aE l=l.length/\val l=n
theorem ES(i:Nat):nth [] i=0:=by simp[nth]
theorem dJ(x:Int)(l:List Int):nth (x :: l) 0=x:=by simp[nth]
theorem dV(x:Int)(l:List Int)(i:Nat):nth (x :: l) (i+1)=nth l i:=by simp[nth]
theorem fW(h:l.length<=i:=by omega):nth l i=0:=by
 simp[nth,List.getElem?_eq_none h]
theorem cF(h:i < l.length):nth l i=l[i]:=by
 simp[nth,List.getElem?_eq_getElem h]
theorem wT(h:i < l.length):nth l i∈l:=by
 rw[cF h];exact List.getElem_mem h
theorem Words.nth(h:Words l)(i:Nat):0<=nth l i/\nth l i < 18446744073709551616:=by
 by_cases hi:i < l.length
 ·exact h _ (wT hi)
 rw[fW];decide
theorem Words.nil:Words []:=λ_ h=>by simp at h
theorem Words.cons(h0:0<=x)(h1:x < 18446744073709551616)(h:Words l):Words (x :: l):=by
 intro y hy;rcases List.mem_cons.1 hy with e | e
 ·subst e;exact⟨h0,h1⟩
 exact h y e
theorem Words.tail(h:Words (x :: l)):Words l:=λy hy=>h y (List.mem_cons_of_mem _ hy)
theorem Words.head(h:Words (x :: l)):0<=x/\x < 18446744073709551616:=h x (List.mem_cons_self)
theorem Words.take(h:Words l)(k:Nat):Words (l.take k):=λx hx=>h x (List.mem_of_mem_take hx)
theorem Words.drop(h:Words l)(k:Nat):Words (l.drop k):=λx hx=>h x (List.mem_of_mem_drop hx)
theorem Words.append(ha:Words a)(hb:Words b):Words (a ++ b):=by
 intro x hx;rcases List.mem_append.1 hx with e | e
 ·exact ha x e
 exact hb x e
theorem df(h:i < k:=by omega):nth (l.take k) i=nth l i:=by
 simp[nth,h]
theorem dI(l:List Int)(k i:Nat):nth (l.drop k) i=nth l (k+i):=by
 simp[nth,List.getElem?_drop]
theorem gY(h:i < a.length):nth (a ++ b) i=nth a i:=by
 simp[nth,List.getElem?_append_left h]
theorem dM(h:a.length<=i:=by omega):nth (a ++ b) i=nth b (i - a.length):=by
 simp[nth,List.getElem?_append_right h]
theorem jK(hl:a.length=b.length)(h:∀ i,i < a.length->nth a i=nth b i):a=b:=by
 apply List.ext_getElem hl;intro i h1 h2;have:=h i h1;rwa [cF h1,cF h2] at this
theorem dB(hk:k < l.length:=by omega):nth (l.set k x) i=if i=k then x else nth l i:=by
 simp only[nth,List.getD_eq_getElem?_getD,List.getElem?_set];by_cases h:k=i
 ·subst h;simp[hk]
 simp[h,show ¬ i=k from λe=>h e.symm]
theorem Words.set(h:Words l)(k:Nat)(h0:0<=x)(h1:x < 18446744073709551616):Words (l.set k x):=by
 intro y hy;rcases List.mem_or_eq_of_mem_set hy with e | e
 ·exact h y e
 subst e;exact⟨h0,h1⟩
theorem dw(h:k < l.length):l.take (k+1)=l.take k ++ [nth l k]:=by
 rw[cF h,List.take_succ_eq_append_getElem h]
theorem aR(h:Words l):0<=val l:=by
 induction l with
 | nil=>simp[val]
 | cons x l ih=>have:=h.head;have:=ih h.tail;simp only[val];omega
theorem dY(a b:List Int):val (a ++ b)=val a+18446744073709551616 ^ a.length * val b:=by
 induction a with
 | nil=>simp[val]
 | cons x a ih=>simp only[List.cons_append,val,ih,List.length_cons,Int.pow_succ];grind
theorem dO(h:Words l):val l < 18446744073709551616 ^ l.length:=by
 induction l with
 | nil=>simp[val]
 | cons x l ih =>
  have:=h.head;have:=ih h.tail;simp only[val,List.length_cons,Int.pow_succ];omega
theorem eG(x:Int):val [x]=x:=by simp[val]
theorem du(h:k < l.length):val (l.take (k+1))=val (l.take k)+18446744073709551616 ^ k * nth l k:=by
 rw[dw h,dY,eG,List.length_take,Nat.min_eq_left (by omega)]
theorem bN(l:List Int)(k:Nat)(h:k<=l.length:=by omega):val l=val (l.take k)+18446744073709551616 ^ k * val (l.drop k):=by
 conv=>lhs;rw[<- List.take_append_drop k l]
 rw[dY,List.length_take,Nat.min_eq_left h]
theorem bO(l:List Int):aE l<=l.length:=by
 induction l with
 | nil=>simp[aE]
 | cons x l ih=>simp only[aE,List.length_cons];split<;>(try split)<;>omega
theorem gh:aE l=0<->∀ i,nth l i=0:=by
 induction l with
 | nil=>simp[aE,nth]
 | cons x l ih =>
  simp only[aE];constructor
  ·intro h i;by_cases e:aE l=0
   ·by_cases a:x=0
    ·cases i with
     | zero=>rw[dJ,a]
     | succ i=>rw[dV];exact ih.1 e i
    simp[e,a] at h
   simp[e] at h
  intro h
  have b:x=0:=by have:=h 0;rwa [dJ] at this
  have c:aE l=0:=ih.2 λi=>by have:=h (i+1);rwa [dV] at this
  simp[c,b]
theorem jG(hk:k<=l.length)(h0:∀ i,k<=i->nth l i=0)(h1:k≠0->nth l (k - 1)≠0):aE l=k:=by
 induction l generalizing k with
 | nil=>simp[aE] at *;omega
 | cons x l ih =>
  cases k with
  | zero =>
   have:aE (x :: l)=0:=gh.2 λi=>h0 i (Nat.zero_le _)
   exact this
  | succ k =>
   have e:aE l=k:=ih (by simpa using hk) (λi hi=>by have:=h0 (i + 1) (by omega); rwa [dV] at this) (λa=>by
    have:=h1 (by omega);rw[show k+1 - 1=(k - 1)+1 from by omega,dV] at this;exact this)
   simp only[aE,e];by_cases a:k=0
   ·subst a;have:=h1 (by omega);rw[show (0+1 - 1)=0 from rfl,dJ] at this;simp[this]
   simp[a]
theorem fN(h:aE l≤i):nth l i=0:=by
  induction l generalizing i with
  | nil=>simp[nth]
  | cons x l ih =>
    simp only[aE] at h;by_cases e:aE l=0
    · simp only[e,if_true] at h
      cases i with
      | zero => by_cases a : x = 0
                · rw[dJ,a]
                · simp[a] at h
      | succ i=>rw[dV];exact gh.1 e i
    · simp only[e,if_false] at h
      cases i with
      | zero=>omega
      | succ i=>rw[dV];exact ih (by omega)
theorem iM(h:aE l≠0):nth l (aE l - 1)≠0:=by
 induction l with
 | nil=>simp[aE] at h
 | cons x l ih =>
  simp only[aE] at h ⊢;by_cases e:aE l=0
  ·simp only[e,if_true] at h ⊢;by_cases a:x=0
   ·simp[a] at h
   simp[a,dJ]
  simp only[e,if_false] at h ⊢;have:=ih e;rw[show aE l+1 - 1=(aE l - 1)+1 from by omega,dV];exact this
theorem aK(l:List Int):(norm l).length=aE l:=by
 rw[norm,List.length_take,Nat.min_eq_left (bO l)]
theorem gx(l:List Int)(i:Nat):nth (norm l) i=nth l i:=by
 by_cases h:i < aE l
 ·exact df (h:=h)
 rw[fW (h:=by rw[aK];omega),fN (by omega)]
theorem Words.norm(h:Words l):Words (norm l):=h.take _
theorem xZ(l:List Int):aE (norm l)=(norm l).length:=by
 rw[aK];apply jG (by rw[aK];omega)
 ·intro i hi;rw[gx];exact fN hi
 intro h;rw[gx];exact iM h
theorem fp(h:∀ i,nth l i=0):val l=0:=by
 induction l with
 | nil=>rfl
 | cons x l ih =>
  have h0:=h 0;rw[dJ] at h0;rw[val,h0,ih λi=>by have:=h (i+1);rwa [dV] at this];rfl
theorem dn(l:List Int):val (norm l)=val l:=by
 rw[bN l (aE l) (h:=bO l),fp (l:=l.drop (aE l)) λi=>by rw[dI];exact fN (by omega)];simp[norm]
theorem cU(h:Words l):IsN (norm l) (val l):=⟨h.norm,xZ l,dn l⟩
theorem Gc(h:Words l)(hn:aE l≠0):0 < val l:=by
 induction l with
 | nil=>simp[aE] at hn
 | cons x l ih =>
  have hx:=h.head;have hv:=aR h.tail;simp only[val];by_cases e:aE l=0
  ·simp only[aE,e,if_true] at hn;have:x≠0:=by intro a; simp[a] at hn
   omega
  have:=ih h.tail e;omega
theorem cL(h:Words l):aE l=0<->val l=0:=by
 constructor
 ·intro e;exact fp (gh.1 e)
 intro e;by_cases n:aE l=0
 ·exact n
 have:=Gc h n;omega
theorem iw(h:Words l)(hn:aE l≠0:=by omega):18446744073709551616 ^ (aE l - 1)<=val l:=by
 have e:=dn l;have a:=aK l;have hw:=h.norm;have f:=bN (norm l) (aE l - 1)
 have b:(norm l).drop (aE l - 1)=[nth l (aE l - 1)]:=by
  apply jK
  ·simp[a];omega
  intro i hi;simp[a] at hi;have:i=0:=by omega
  subst this;rw[dI,gx,dJ];rfl
 have g:=aR (hw.take (aE l - 1));have hx:=h.nth (aE l - 1);have c:=iM hn
 have d:(0:Int) < 18446744073709551616 ^ (aE l - 1):=Int.pow_pos (by decide);rw[b,eG] at f;have:18446744073709551616 ^ (aE l - 1) * 1<=18446744073709551616 ^ (aE l - 1) * nth l (aE l - 1):=Int.mul_le_mul_of_nonneg_left (by omega) (Int.le_of_lt d);omega
theorem ij(h:Words l):val l < 18446744073709551616 ^ aE l:=by
 have:=dO h.norm;rwa [dn,aK] at this
theorem kh{a b:Nat}(h:a<=b):(18446744073709551616:Int) ^ a<=18446744073709551616 ^ b:=by
 obtain⟨d,rfl⟩:=Nat.exists_eq_add_of_le h;rw[Int.pow_add]
 have c:(0:Int) < 18446744073709551616 ^ a:=Int.pow_pos (by decide)
 have hq:(0:Int) < 18446744073709551616 ^ d:=Int.pow_pos (by decide);have:(18446744073709551616:Int) ^ a * 1<=18446744073709551616 ^ a * 18446744073709551616 ^ d:=Int.mul_le_mul_of_nonneg_left (by omega) (Int.le_of_lt c);omega
theorem dz(ha:Words a)(hb:Words b)(h:aE a < aE b):val a < val b:=by
 have h1:=ij ha;have h2:=iw hb;have:=kh (show aE a<=aE b - 1 by omega);omega
end
end Lim
end
section
open Go.RowKit Lim
def Cells (w:World) (ao:Option Addr) (l:List Int):Prop :=
 l=[]\/∃ b o,ao=some ⟨b,o,none⟩/\∀ i,i < l.length->w.cell? ⟨b,o+i,none⟩=some (.int .u64 (nth l i))
theorem bP (ao:Option Addr) (n c:Nat) (l:List Int) (w:World) (p:l.length=n) (hc:n≤c) (d:Cells w ao l) (hb:n≤4398046511104:=by omega) :
    Calls Tryz.prog 265 #[.slice ao n c] w λe w'=>e=.returned (.slice ao (aE l) (aE l))∧w'=w:=by
  go_enter Tryz.func265,Tryz.ntmps265;go_wp2;go_loop [3] (λt=>∃ k:Nat,k≤n∧t=.int .i64 k∧Hid (∀ i,k≤i→nth l i=0)) (λt=>(intOf t).toNat)
  case atStart=>exact⟨n,Nat.le_refl _,rfl,λi hi=>fW⟩
  case round =>
    obtain⟨k,hk,rfl,g⟩:= hrel;by_cases j:0 < k
    · rcases d with e | ⟨b, o, rfl, d⟩
      · subst e;simp at p;omega
      · have f:=d (k - 1) (by omega)
        have m:w.cell? ⟨b,o+k - 1,none⟩=some (.int .u64 (nth l (k - 1))):=by rw[← f];congr 2;omega
        clear d;go_wp2
        · go_round
          case rel => exact⟨k - 1, by omega, by go_num, λi hi => by
            by_cases e:i=k - 1
            · subst e;exact beq_iff_eq.1 (by assumption)
            · exact g.out i (by omega)⟩
          case measure=>simp[intOf];omega
        · go_ret
          rw[jG (k:=k) (by omega) g.out (λ_=>beq_eq_false_iff_ne.1 (by assumption))];exact⟨rfl,rfl⟩
    · go_wp2
      go_ret;rw[jG (k:=k) (by omega) g.out (λ_=>by omega)];exact⟨rfl,rfl⟩
def bor (x y:Int):Int:=if x < y then 1 else 0
theorem rZ (x y:Int) (hx:0<=x) (hy:0<=y) (w:World):(callFunc 326 #[.int .u64 x,.int .u64 y,.int .u64 0]).run Tryz.prog w =
  .ok (.value (.tuple #[.int .u64 ((x+y) % 18446744073709551616),.int .u64 ((x+y) / 18446744073709551616)])) w:=by
 obtain⟨x,rfl⟩:=Int.eq_ofNat_of_zero_le hx;obtain⟨y,rfl⟩:=Int.eq_ofNat_of_zero_le hy;rw[run_callFunc_extern Tryz.func326 (by kernel_rfl) (by kernel_rfl) (by kernel_rfl) (e:=add64Entry) (by kernel_rfl),run_add64 (P:=Tryz.prog) x y 0 (by omega) (by omega) (by omega) (by omega),Int.add_zero];rfl
theorem Gw (x y:Int) (hx:0<=x) (w:World):(callFunc 326 #[.int .u64 x,.int .u64 (y % 18446744073709551616),.int .u64 0]).run Tryz.prog w =
  .ok (.value (.tuple #[.int .u64 ((x+y % 18446744073709551616) % 18446744073709551616),.int .u64 ((x+y % 18446744073709551616) / 18446744073709551616)])) w :=
 rZ x _ hx (Int.emod_nonneg _ (by decide)) w
theorem GO (x y:Int) (hx:0<=x) (a:x < 18446744073709551616) (hy:0<=y) (b:y < 18446744073709551616) (w:World):(callFunc 393 #[.int .u64 x,.int .u64 y,.int .u64 0]).run Tryz.prog w =
  .ok (.value (.tuple #[.int .u64 ((x - y) % 18446744073709551616),.int .u64 (bor x y)])) w:=by
 obtain⟨x,rfl⟩:=Int.eq_ofNat_of_zero_le hx;obtain⟨y,rfl⟩:=Int.eq_ofNat_of_zero_le hy
 have this:(callFunc 393 #[.int .u64 (x:Int),.int .u64 (y:Int),.int .u64 0]).run Tryz.prog w =
   .ok (.value (.tuple #[.int .u64 (((x+18446744073709551616 - y - 0) % 18446744073709551616:Nat):Int),.int .u64 ((if x < y+0 then 1 else 0:Nat):Int)])) w:=by kernel_rfl
 rw[this]
 have e1:(((x+18446744073709551616 - y - 0) % 18446744073709551616:Nat):Int)=((x:Int) - y) % 18446744073709551616:=by omega
 have e2:((if x < y+0 then 1 else 0:Nat):Int)=bor x y:=by unfold bor;split<;>split<;>omega
 rw[e1,e2]
theorem oG {k k':IntKind} {a b c d:Int} (h:a=b) (h':c=d):Ending.returned (.tuple #[.int k a,.int k' c])=.returned (.tuple #[.int k b,.int k' d]):=by rw[h,h']
theorem rW (z:Int) (h0:0<=z) (h1:z < 18446744073709551616):bits .and .u64 z 4294967295=z % 4294967296:=and_low32 z h0 h1
theorem mul64 (x y:Int) (hx:0<=x) (b:x < 18446744073709551616) (hy:0<=y) (c:y < 18446744073709551616) (w:World) :
  Calls Tryz.prog 325 #[.int .u64 x,.int .u64 y] w λe w'=>e=.returned (.tuple #[.int .u64 (x * y / 18446744073709551616),.int .u64 (x * y % 18446744073709551616)])/\w'=w:=by
 go_enter Tryz.func325,Tryz.ntmps325;go_wp2;go_ret2;refine⟨oG ?_ ?_,rfl⟩
 ·show IntKind.u64.wrap (IntKind.u64.wrap (IntKind.u64.wrap (x / 4294967296 * (y / 4294967296))+IntKind.u64.wrap (IntKind.u64.wrap (x / 4294967296 * bits BinOp.and IntKind.u64 y 4294967295)+IntKind.u64.wrap (bits BinOp.and IntKind.u64 x 4294967295 * bits BinOp.and IntKind.u64 y 4294967295) / 4294967296) / 4294967296)+IntKind.u64.wrap (bits BinOp.and IntKind.u64 (IntKind.u64.wrap (IntKind.u64.wrap (x / 4294967296 * bits BinOp.and IntKind.u64 y 4294967295)+IntKind.u64.wrap (bits BinOp.and IntKind.u64 x 4294967295 * bits BinOp.and IntKind.u64 y 4294967295) / 4294967296)) 4294967295+IntKind.u64.wrap (bits BinOp.and IntKind.u64 x 4294967295 * (y / 4294967296))) / 4294967296)=_
  simp only[IntKind.wrap_u64];rw[rW x hx b,rW y hy c,rW _ (Int.emod_nonneg _ (by decide)) (Int.emod_lt_of_pos _ (by decide))];exact mul64_arith x y hx b hy c
 show IntKind.u64.wrap (x * y)=_
 rw[IntKind.wrap_u64]
theorem mj (x y:Int) (hx:0<=x) (a:x < 18446744073709551616) (hy:0<=y) (b:y < 18446744073709551616) (w:World) :
  CP 325 #[.int .u64 x,.int .u64 y] w λe w'=>∃ hi lo:Int,e=.returned (.tuple #[.int .u64 hi,.int .u64 lo])/\0<=hi/\hi<=18446744073709551614/\0<=lo/\lo < 18446744073709551616/\Hid (hi * 18446744073709551616+lo=x * y)/\w'=w:=by
 refine(mul64 x y hx a hy b w).mono ?_
 rintro e w' ⟨rfl,rfl⟩
 have c:0<=x * y:=Int.mul_nonneg hx hy
 have d:x * y<=18446744073709551615 * 18446744073709551615:=Int.mul_le_mul (by omega) (by omega) hy (by decide);exact⟨_,_,rfl,by omega,by omega,by omega,by omega,by show _=_;omega,rfl⟩
section
variable {w w1 w':World}{ao ao':Option Addr}{b o n o' n' i k B b':Nat}{l m:List Int}{v:Value}
structure At(w:World)(ao:Option Addr)(b o:Nat)(l:List Int):Prop where
 loc:l=[]\/ao=some ⟨b,o,none⟩
 cell:∀ i,i < l.length->w.cell? ⟨b,o+i,none⟩=some (.int .u64 (nth l i))
theorem At.cells(h:At w ao b o l):Cells w ao l:=by
 rcases h.loc with e | e
 ·exact .inl e
 exact .inr ⟨b,o,e,h.cell⟩
def dN(w:World)(b o n:Nat):Prop:=∀ i,i < n->w.frozen? ⟨b,o+i,none⟩=false
structure Wr(b o n:Nat)(w w':World):Prop where
 os:w'.os=w.os
 tape:w'.tape=w.tape
 output:w'.output=w.output
 size:w'.heap.size=w.heap.size
 block:∀ k,k≠b->w'.heap[k]?=w.heap[k]?
 cell:∀ i,(i < o\/o+n<=i)->w'.cell? ⟨b,i,none⟩=w.cell? ⟨b,i,none⟩
 frozen:∀ i,w'.frozen? ⟨b,i,none⟩=w.frozen? ⟨b,i,none⟩
theorem Wr.refl(b o n:Nat)(w:World):Wr b o n w w:=⟨rfl,rfl,rfl,rfl,λ_ _=>rfl,λ_ _=>rfl,λ_=>rfl⟩
theorem Wr.trans{a:World}(h:Wr b o n w w1)(k:Wr b o n w1 a):Wr b o n w a :=
 ⟨k.os.trans h.os,k.tape.trans h.tape,k.output.trans h.output,k.size.trans h.size,λi hi=>(k.block i hi).trans (h.block i hi),λi hi=>(k.cell i hi).trans (h.cell i hi),λi=>(k.frozen i).trans (h.frozen i)⟩
theorem Wr.mono(h:Wr b o n w w')(h1:o'<=o)(h2:o+n<=o' + n'):Wr b o' n' w w' :=
 ⟨h.os,h.tape,h.output,h.size,h.block,λi hi=>h.cell i (by omega),h.frozen⟩
theorem Wr.setCell(h:Wr b o n w w1)(h1:o<=i)(a:i < o+n)(v:Value):Wr b o n w (w1.setCell ⟨b,i,none⟩ v) :=
 h.trans ⟨rfl,rfl,rfl,by simp[World.setCell],λk hk=>Below.heap_setCell _ _ _ _ hk,λj c=>by
   simp only[World.cell?,World.setCell,Array.getElem?_modify,if_true]
   cases hh:w1.heap[b]? with
   | none=>simp
   | some ob =>
    cases ob<;>simp
    rw[Array.getElem?_setIfInBounds,if_neg (by omega)],λj=>by
   simp only[World.frozen?,World.setCell,Array.getElem?_modify,if_true]
   cases hh:w1.heap[b]? with
   | none=>simp
   | some ob=>cases ob<;>simp⟩
theorem Wr.other(h:Wr b o n w w')(hk:k≠b):w'.cell? ⟨k,i,none⟩=w.cell? ⟨k,i,none⟩:=World.cell?_of_block (w:=w) (h.block k hk)
theorem Wr.below(h:Wr b o n w w')(hB:B<=b):Below B w w' :=
 ⟨h.os,h.tape,h.output,by rw[h.size];exact Nat.le_refl _,λk hk=>h.block k (by omega)⟩
theorem Wr.free(h:Wr b o n w w')(k:dN w b' o' n'):dN w' b' o' n':=by
 intro i hi;by_cases e:b'=b
 ·subst e;rw[h.frozen];exact k i hi
 rw[World.frozen?_of_block (w:=w) (h.block b' e)];exact k i hi
theorem At.wr(h:Wr b o n w w')(k:At w ao b' o' l)(hb:l=[]\/b'≠b):At w' ao b' o' l :=
 ⟨k.loc,λi hi=>by
  rcases hb with e | e
  ·subst e;simp at hi
  rw[h.other e];exact k.cell i hi⟩
theorem At.below(h:Below B w w')(k:At w ao b o l)(hb:l=[]\/b < B):At w' ao b o l :=
 ⟨k.loc,λi hi=>by
  rcases hb with e | e
  ·subst e;simp at hi
  rw[h.cell (p:=⟨b,o+i,none⟩) e];exact k.cell i hi⟩
theorem aC(h:w.cell? ⟨b,o,none⟩=some v):b < w.heap.size:=by
 simp only[World.cell?] at h;by_cases hb:b < w.heap.size
 ·exact hb
 rw[Array.getElem?_eq_none (by omega)] at h;simp at h
theorem At.lt(k:At w ao b o l):l=[]\/b < w.heap.size:=by
 cases l with
 | nil=>exact .inl rfl
 | cons x l=>exact .inr (aC (k.cell 0 (by simp)))
theorem At.keep(h:BW w w')(k:At w ao b o l):At w' ao b o l:=k.below h k.lt
theorem At.setCell(k:At w ao b o l)(hi:i < l.length)(x:Int):At (w.setCell ⟨b,o+i,none⟩ (.int .u64 x)) ao b o (l.set i x) :=
  ⟨by rcases k.loc with e | e
      · subst e;simp at hi
      · exact .inr e,λj g=>by
    rw[List.length_set] at g;have hc:=k.cell j g;rw[dB (hk:=hi)];have a:=k.cell i hi;simp only[World.cell?,World.setCell,Array.getElem?_modify,if_true] at hc a ⊢
    cases hh:w.heap[b]? with
    | none=>rw[hh] at hc;simp at hc
    | some ob =>
      rw[hh] at hc a
      cases ob with
      | cells c e f =>
        simp at hc a ⊢;rw[Array.getElem?_setIfInBounds];by_cases e:j=i
        · subst e
          obtain⟨d,_⟩:= Array.getElem?_eq_some_iff.1 a;simp[d]
        · rw[if_neg (by omega),if_neg e];exact hc
      | _=>simp at hc⟩
theorem At.drew(h:At w ao b o l):At w.drew ao b o l:=⟨h.loc,h.cell⟩
theorem dN.drew(h:dN w b o n):dN w.drew b o n:=h
theorem Wr.drew(h:Wr b o n w w'):Wr b o n w w'.drew:=⟨h.os,h.tape,h.output,h.size,h.block,h.cell,h.frozen⟩
theorem At.drewN(h:At w ao b o l)(n:Nat):At (w.drewN n) ao b o l:=⟨h.loc,h.cell⟩
theorem Wr.drewN(h:Wr b o n w w')(k:Nat):Wr b o n w (w'.drewN k):=⟨h.os,h.tape,h.output,h.size,h.block,h.cell,h.frozen⟩
def patch(l:List Int)(k:Nat)(m:List Int):List Int:=l.take k ++ (m ++ l.drop (k+m.length))
theorem fm(h:k+m.length<=l.length:=by omega):(patch l k m).length=l.length:=by simp[patch];omega
theorem lU(hl:Words l)(hm:Words m):Words (patch l k m):=(hl.take k).append (hm.append (hl.drop _))
theorem qV(h:k+m.length<=l.length)(hi:i < m.length):nth (patch l k m) (k+i)=nth m i:=by
 have e:(l.take k).length=k:=by simp;omega
 rw[patch,dM,e,Nat.add_sub_cancel_left,gY hi]
theorem oC(h:k+m.length<=l.length)(hi:i < k\/k+m.length<=i):nth (patch l k m) i=nth l i:=by
 have e:(l.take k).length=k:=by simp;omega
 rcases hi with hi | hi
 ·rw[patch,gY (by omega),df (h:=hi)]
 rw[patch,dM,e,dM,dI];congr 1;omega
theorem pr(h:k+m.length<=l.length:=by omega):val (patch l k m)=val l+18446744073709551616 ^ k * (val m - val ((l.drop k).take m.length)):=by
 have e:(l.take k).length=k:=by simp;omega
 have b:=bN l k;have a:=bN (l.drop k) m.length (h:=by simp;omega);rw[List.drop_drop] at a;rw[patch,dY,dY,e,b,a];grind
theorem At.patch(h:At w ao b o l)(hw:Wr b (o+k) n w w')(hm:At w' ao' b (o+k) m)(hn:m.length=n)(hk:k+n≤l.length):At w' ao b o (patch l k m) :=
  ⟨by rcases h.loc with e | e
      · left;subst e;simp at hk;simp[Go.Proofs.YtpoifdokmjhclaaGreat.patch,List.eq_nil_of_length_eq_zero (show m.length=0 by omega)]
      · exact .inr e,λi hi=>by
    rw[fm] at hi;by_cases a:k≤i∧i < k+n
    · obtain⟨j,rfl⟩:= Nat.exists_eq_add_of_le a.1
      rw[qV (by omega) (by omega),← hm.cell j (by omega),Nat.add_assoc]
    · rw[oC (by omega) (by omega),hw.cell _ (by omega)];exact h.cell i hi⟩
theorem At.fO(h:At w ao b o l)(k n:Nat):At w (some ⟨b,o+k,none⟩) b (o+k) ((l.drop k).take n) :=
 ⟨.inr rfl,λi hi=>by
  simp only[List.length_take,List.length_drop] at hi
  rw[df,dI,Nat.add_assoc];exact h.cell _ (by omega)⟩
theorem dN.fO(h:dN w b o n){m:Nat}(hk:k + m<=n):dN w b (o + k) m:=λi hi=>by
 rw[Nat.add_assoc];exact h _ (by omega)
theorem At.sub(k:At w ao b o l)(n:Nat):At w ao b o (l.take n) :=
  ⟨by rcases k.loc with e | e
      · subst e;exact .inl (by simp)
      · exact .inr e,λi hi=>by
    rw[List.length_take] at hi
    rw[df];exact k.cell i (by omega)⟩
end
section
variable {w:World}{g:Nat}{l:List Int}{ops:Array Oper}{rest:List Oper}{o:Oper}{a:Act}
theorem kO:(Tryz.prog.info? 22).map (λi=>(i.zero,i.size,i.bytes))=some (some (.int .u64 0),1,8):=by kernel_rfl
theorem gB:Tryz.prog.underlying 53=some (.slice 22):=by kernel_rfl
def Row(w:World)(g:Nat)(l:List Int):Prop:=w.heap[g]?=some (.cells (l.map (Value.int .u64)).toArray 22 (0,0))
theorem Row.at(h:Row w g l):At w (some ⟨g,0,none⟩) g 0 l :=
 ⟨.inr rfl,λi hi=>by
  unfold Row at h;simp only[World.cell?,h]
  simp[cF hi,hi]⟩
theorem Row.free(h:Row w g l)(o n:Nat):dN w g o n:=by
 intro i _;unfold Row at h;simp[World.frozen?,h]
theorem Row.lt(h:Row w g l):g < w.heap.size:=(Array.getElem?_eq_some_iff.1 h).1
structure dL(w w':World)(v:Value)(l:List Int):Prop where
 is:∃ ao b o c,v=.slice ao l.length c/\l.length<=c/\w.heap.size<=b/\At w' ao b o l/\dN w' b o l.length
theorem rX(n:Nat):madeCells (Value.int .u64 0).cells n=((List.replicate n 0).map (Value.int .u64)).toArray:=by
 apply Array.ext
 ·simp[size_madeCells]
 intro j b a;simp[madeCells,Value.cells,Nat.mod_one]
theorem cY{Q:Exit→Act→World→Prop}(f:o.guard=none)(l c:Operand)(d:o.op=Op.makeSlice 53 l c)(n:Nat)(L C:Int)(j:a.eval l=.int .i64 L)(hc:a.eval c=.int .i64 C)(g:∀ w',Row w' w.heap.size (List.replicate n 0)→BW w w'→w'.heap.size=w.heap.size+1→wpList Tryz.prog ops Q rest (a.put o.dst (.slice (some ⟨w.heap.size,0,none⟩) n n)) w')(hL:L=(n:Int):=by omega)(hC:C=(n:Int):=by omega)(hn:n≤17592186044416:=by omega) :
    wpList Tryz.prog ops Q (o :: rest) a w:=by
  obtain⟨i,hi,h,k,hb⟩:= info_parts kO;refine wpList_plain f λK e=>?_
  have b:=run_make (P:=Tryz.prog) w 53 22 i (.int .u64 0) gB hi h .i64 .i64 (n:Int) (n:Int) (by omega) (by omega) (by rw[hb];omega) (by omega);subst hL;subst hC;unfold Oper.wp;simp only[execOp,d,j,hc];simp[b,Result.andThen];refine e _ _ (g _ ?_ ?_ ?_)
  · show (w.heap.push _)[w.heap.size]?=_
    rw[Array.getElem?_push_size,k,Nat.mul_one,rX]
  · exact(Below.refl _ _).alloc (Nat.le_refl _) _
  · simp
theorem gK{Q:Exit->Act->World->Prop}(m:o.guard=none)(d s:Operand)(ho:o.op=.call { callee:=.builtin .copy,args:=#[d,s],argTypes:=#[53,53] })(g dLen dCap sLen sCap:Nat)(sp:Option Addr)(A:a.eval d=.slice (some ⟨g,0,none⟩) dLen dCap)(hs:a.eval s=.slice sp sLen sCap)(lz ls:List Int)(b:Row w g lz)(y:lz.length=dLen)(b' o':Nat)(l:ls.length=sLen)(hle:sLen<=dLen)(p:At w sp b' o' ls)(h:∀ w',Row w' g (ls ++ lz.drop sLen)->Wr g 0 dLen w w'->wpList Tryz.prog ops Q rest (a.put o.dst (goInt sLen)) w'):wpList Tryz.prog ops Q (o :: rest) a w:=by
 obtain⟨i,hi,C,t,hb⟩:=info_parts kO
 have c:(Tryz.prog.info? 22).map (·.size)=some 1:=by rw[hi];simp[t]
 by_cases u:sLen=0
 ·have B:ls=[]:=List.eq_nil_of_length_eq_zero (by omega);subst B;refine wpList_copy_nothing m d s _ _ ho _ gB c _ sp dLen dCap sLen sCap A hs (by subst u;exact Nat.zero_min _) ?_
  have:=h w (by rw[u];simpa using b) (Wr.refl _ _ _ _);rwa [u] at this
 obtain rfl:sp=some ⟨b',o',none⟩:=by
  rcases p.loc with e | e
  ·subst e;simp at l;omega
  exact e
 have q:Nat.min sLen dLen=sLen:=Nat.min_eq_left hle
 have hlen:(ls.map (Value.int .u64)).length=sLen:=by simp[l]
 refine wpList_copy_own m d s _ _ ho _ gB c g 0 dLen dCap ⟨b',o',none⟩ sLen sCap A hs _ _ b (ls.map (Value.int .u64)) (by rw[q,hlen]) ?_ (by simp[l,y];omega) (ints_oneCell _ _) ?_
 ·intro j v hv;rw[List.getElem?_map] at hv
  have f:j < ls.length:=by
   rcases Nat.lt_or_ge j ls.length with f | f
   ·exact f
   rw[List.getElem?_eq_none f] at hv;simp at hv
  rw[List.getElem?_eq_getElem f] at hv;simp at hv;subst hv;have:=p.cell j f;rw[cF f] at this;rw[<- this];by_cases n:j=0
  ·subst n;exact congrArg w.cell? (by simp[Addr.add])
  exact congrArg w.cell? (by simp[Addr.add,n])
 rw[hlen]
 have z:Row (w.setRow g (List.take 0 (List.map (Value.int .u64) lz).toArray.toList ++ (List.map (Value.int .u64) ls ++ List.drop (0+sLen) (List.map (Value.int .u64) lz).toArray.toList)).toArray) g (ls ++ lz.drop sLen):=by
  unfold Row;rw[setRow_heap w g _ _ _ _ b,Nat.zero_add];simp only[List.take_zero,List.nil_append,<- List.map_drop,<- List.map_append]
 refine h _ z ⟨rfl,rfl,rfl,by simp[World.setRow],λk hk=>setRow_other w g k _ hk,λj f=>?_,λj=>?_⟩
 ·have x:w.heap[g]?=_:=b
  have r:(w.setRow g (List.take 0 (List.map (Value.int .u64) lz).toArray.toList ++ (List.map (Value.int .u64) ls ++ List.drop (0+sLen) (List.map (Value.int .u64) lz).toArray.toList)).toArray).heap[g]?=_:=z;simp only[World.cell?,x,r];simp;rw[List.getElem?_eq_none (by simp;omega),List.getElem?_eq_none (by omega)];rfl
 have x:w.heap[g]?=_:=b
 have r:(w.setRow g (List.take 0 (List.map (Value.int .u64) lz).toArray.toList ++ (List.map (Value.int .u64) ls ++ List.drop (0+sLen) (List.map (Value.int .u64) lz).toArray.toList)).toArray).heap[g]?=_:=z;simp only[World.frozen?,x,r]
end
section
variable {x y:Int}{l a b:List Int}
def sgn(x y:Int):Int:=if x < y then -1 else if y < x then 1 else 0
theorem ik(h:x < y):sgn x y=-1:=by simp[sgn,h]
theorem kT(h:y < x):sgn x y=1:=by simp only[sgn];rw[if_neg (by omega),if_pos h]
theorem uI(h:x=y):sgn x y=0:=by simp[sgn,h]
theorem gi(l:List Int):val l=nth l 0+18446744073709551616 * val l.tail:=by
 cases l with
 | nil=>simp[val,nth]
 | cons x l=>simp[val,nth]
theorem fE(l:List Int)(i:Nat):nth l.tail i=nth l (i+1):=by
 cases l with
 | nil=>simp[nth]
 | cons x l=>simp[nth]
theorem Lim.Words.tl(h:Words l):Words l.tail:=λx hx=>h x (List.mem_of_mem_tail hx)
theorem qo:∀ {a b:List Int},(∀ i,nth a i=nth b i)->val a=val b
 | [],b,h=>by rw[fp (l:=b) λi=>by rw[<- h i,ES]];rfl
 | x :: a,b,h=>by
  rw[gi (x :: a),gi b,h 0,List.tail_cons,qo (a:=a) (b:=b.tail) λi=>by rw[fE,<- h (i+1),dV]]
theorem lK:∀ (h:Nat) {a b:List Int},Words a->Words b->(∀ i,h < i->nth a i=nth b i)->nth a h < nth b h->val a < val b
 | 0,a,b,_,_,he,hl=>by
  rw[gi a,gi b,qo (a:=a.tail) (b:=b.tail) λi=>by rw[fE,fE];exact he _ (by omega)];omega
 | h + 1,a,b,ha,hb,he,hl=>by
  have:=lK h ha.tl hb.tl (λi hi=>by rw[fE,fE];exact he _ (by omega)) (by rw[fE,fE];exact hl);have d:=ha.nth 0;have c:=hb.nth 0;rw[gi a,gi b];omega
theorem sgn_at(e:Words a)(hb:Words b)(h:Nat)(he:∀ i,h < i->nth a i=nth b i)(d:nth a h≠nth b h):sgn (nth a h) (nth b h)=sgn (val a) (val b):=by
 rcases Int.lt_or_gt_of_ne d with c | c
 ·rw[ik c,ik (lK h e hb he c)]
 rw[kT c,kT (lK h hb e (λi hi=>(he i hi).symm) c)]
theorem CC(e:Words a)(hb:Words b)(c:aE a≠aE b):sgn (aE a) (aE b)=sgn (val a) (val b):=by
 rcases Nat.lt_or_gt_of_ne c with d | d
 ·rw[ik (by omega),ik (dz e hb d)]
 rw[kT (by omega),kT (dz hb e d)]
theorem sl(x y:Int)(w:World):Calls Tryz.prog 271 #[.int .i64 x,.int .i64 y] w λe w'=>e=.returned (.int .i64 (sgn x y))/\w'=w:=by
 rcases Int.lt_trichotomy x y with h | h | h
 ·rw[ik h];go_enter Tryz.func271,Tryz.ntmps271;go_wp2;go_ret;exact⟨rfl,rfl⟩
 ·rw[uI h];subst h;go_enter Tryz.func271,Tryz.ntmps271;go_wp2;go_ret;exact⟨rfl,rfl⟩
 rw[kT h]
 have b:¬ x < y:=by omega
 go_enter Tryz.func271,Tryz.ntmps271;go_wp2;go_ret;exact⟨rfl,rfl⟩
theorem sG(x y:Int)(w:World):Calls Tryz.prog 272 #[.int .u64 x,.int .u64 y] w λe w'=>e=.returned (.int .i64 (sgn x y))/\w'=w:=by
 rcases Int.lt_trichotomy x y with h | h | h
 ·rw[ik h];go_enter Tryz.func272,Tryz.ntmps272;go_wp2;go_ret;exact⟨rfl,rfl⟩
 ·rw[uI h];subst h;go_enter Tryz.func272,Tryz.ntmps272;go_wp2;go_ret;exact⟨rfl,rfl⟩
 rw[kT h]
 have b:¬ x < y:=by omega
 go_enter Tryz.func272,Tryz.ntmps272;go_wp2;go_ret;exact⟨rfl,rfl⟩
theorem lI{k:IntKind}{a b:Int}(h:a=b):Ending.returned (.int k a)=.returned (.int k b):=by rw[h]
theorem jQ(ao:Option Addr)(n c b o:Nat)(ao':Option Addr)(n' c' b' o':Nat)(l d:List Int)(w:World)(U:l.length=n)(H:d.length=n')(hc:n<=c)(C:n'<=c')(hbig:n<=1099511627776)(F:n'<=1099511627776)(wl:Words l)(p:Words d)(v:At w ao b o l)(g:At w ao' b' o' d) :
  Calls Tryz.prog 228 #[.slice ao n c,.slice ao' n' c'] w λe w'=>e=.returned (.int .i64 (sgn (val l) (val d)))/\BW w w':=by
 have hn:=bO l
 have D:=bO d;have t1:=bP ao n c l w U hc v.cells;have t2:=bP ao' n' c' d w H C g.cells
 have t:∀ i,aE l<=i->nth l i=0:=λi hi=>fN hi
 have j:∀ i,aE d<=i->nth d i=0:=λi hi=>fN hi
 have s:Hid (aE l≠aE d->sgn (aE l) (aE d)=sgn (val l) (val d)):=CC wl p
 have J:Hid (∀ i,aE l<=i->nth l i=0):=t
 have r:Hid (∀ i,aE d<=i->nth d i=0):=j;clear t j;generalize aE l=N at *;generalize aE d=O at *;go_enter Tryz.func228,Tryz.ntmps228;go_wp2_with fail;refine t1.mono ?_
 rintro e w1 ⟨rfl,rfl⟩;go_wp2_with fail;refine t2.mono ?_
 rintro e Z ⟨rfl,rfl⟩;clear t1 t2;by_cases q:N=O
 ·subst q;go_wp2_with fail;go_loopw [25] (λE wr=>∃ k:Nat,k<=N/\E=.int .i64 k/\Hid (∀ i,N - k<=i->nth l i=nth d i)/\BW Z wr) (λE _=>N - (intOf E).toNat)
  case atStart=>exact⟨0,Nat.zero_le _,rfl,λi hi=>by rw[J.out i (by omega),r.out i (by omega)],Below.refl _ _⟩
  case round =>
   obtain⟨k,hk,rfl,A,f⟩:=hrel;by_cases R:k < N
   ·have u:=v.keep f
    have m:=g.keep f;rcases v.loc with e | rfl
    ·subst e;simp at hn;omega
    rcases g.loc with e | rfl
    ·subst e;simp at D;omega
    obtain⟨h,K⟩:∃ h:Nat,N=h+1+k:=⟨N - 1 - k,by omega⟩
    have q1:=u.cell h (by omega);have L:=m.cell h (by omega)
    have X:Hid (N=h+1+k):=K
    have M:(N:Int) - 1 - k=h:=by omega
    have I:Hid (∀ i,h < i->nth l i=nth d i):=λi hi=>A.out i (by omega)
    have T:Hid (nth l h≠nth d h->sgn (nth l h) (nth d h)=sgn (val l) (val d)):=sgn_at wl p h I.out
    have S:(h:Int) < N:=by omega
    clear K A J r s v g u m wl p;generalize hx:nth l h=x at *;generalize hy:nth d h=y at *
    have P:Hid (x=y->nth l h=nth d h):=λe=>hx.trans (e.trans hy.symm)
    clear hx hy;by_cases z:x=y
    ·have V:Hid (nth l h=nth d h):=P.out z;clear P;subst z;go_wp2_with fail;go_quiet (fail);go_wp2;go_roundw
     case rel=>exact⟨k + 1,by omega,by go_num,λi hi=>by
      by_cases e:i=h
      ·subst e;exact V.out
      exact I.out i (by have:=X.out;omega),below_drewN f _⟩
     case measure=>simp[intOf];omega
    have Q:(x != y)=true:=by rw[bne_iff_ne]; exact z
    go_wp2_with fail;go_quiet (fail);go_wp2_with fail
    have q3:(wr.drewN nq).cell? ⟨b,o+h,none⟩=some (.int .u64 x):=q1
    have q4:(wr.drewN nq).cell? ⟨b',o' + h,none⟩=some (.int .u64 y):=L;have B:=below_drewN f nq;clear q1 L f;generalize wr.drewN nq=W at *;go_quiet ((go_at_call 272;exact Calls.quiet_of_same (sG _ _ _)));go_wp2;go_ret;exact⟨lI (T.out z),below_drewN B _⟩
   have G:k=N:=by omega
   subst G;go_wp2;go_ret;rw[uI (qo λi=>A.out i (by omega))];exact⟨rfl,f⟩
 have Y:((N:Int) != (O:Int))=true:=by rw[bne_iff_ne]; omega
 go_wp2_with (go_at_call 271;refine(sl _ _ _).mono ?_;rintro e w' ⟨rfl,rfl⟩);go_ret;exact⟨lI (s.out q),Below.refl _ _⟩
end
section
variable {n:Nat}
theorem w64(z:Int)(h0:0<=z:=by omega)(h1:z<=1000:=by omega):wrap64 z=z:=by
 unfold wrap64;omega
theorem gL(k:Int)(i:Nat)(h0:0<=k:=by decide)(hk:k<=56:=by decide)(h:i < 256:=by omega):wrap64 (k+wrap64 (bitLen i:Int))=k+bitLen i:=by
 have:=bitLen_le8 i h;rw[w64 (bitLen i),w64 _]
theorem jk(x:Int)(b i:Nat)(h:x.toNat / 2 ^ b=i)(hi:i≠0:=by omega):((bitLen x.toNat:Nat):Int)=b+bitLen i:=by
 rw[bitLen_shift x.toNat b (by rw[h];exact hi),h];omega
theorem AS(x:Int)(w:World)(h0:0<=x)(h1:x < 18446744073709551616) :
  Calls Tryz.prog 302 #[.int .u64 x] w λe w'=>e=.returned (.int .i64 (bitLen x.toNat))/\w'=w:=by
 by_cases c0:4294967296<=x
 ·by_cases c1:65536<=x / 4294967296
  ·by_cases c2:256<=x / 4294967296 / 65536
   ·go_enter Tryz.func302,Tryz.ntmps302;go_wp2;go_ret;refine⟨lI ?_,rfl⟩;rw[len8tab_get,gL 56 (x / 4294967296 / 65536 / 256).toNat,jk x 56 (x / 4294967296 / 65536 / 256).toNat (by rw[show (2:Nat) ^ 56=72057594037927936 from rfl];omega)];rfl
   go_enter Tryz.func302,Tryz.ntmps302;go_wp2;go_ret;refine⟨lI ?_,rfl⟩;rw[len8tab_get,gL 48 (x / 4294967296 / 65536).toNat,jk x 48 (x / 4294967296 / 65536).toNat (by rw[show (2:Nat) ^ 48=281474976710656 from rfl];omega)];rfl
  by_cases c2:256<=x / 4294967296
  ·go_enter Tryz.func302,Tryz.ntmps302;go_wp2;go_ret;refine⟨lI ?_,rfl⟩;rw[len8tab_get,gL 40 (x / 4294967296 / 256).toNat,jk x 40 (x / 4294967296 / 256).toNat (by rw[show (2:Nat) ^ 40=1099511627776 from rfl];omega)];rfl
  go_enter Tryz.func302,Tryz.ntmps302;go_wp2;go_ret;refine⟨lI ?_,rfl⟩;rw[len8tab_get,gL 32 (x / 4294967296).toNat,jk x 32 (x / 4294967296).toNat (by rw[show (2:Nat) ^ 32=4294967296 from rfl];omega)];rfl
 by_cases c1:65536<=x
 ·by_cases c2:256<=x / 65536
  ·go_enter Tryz.func302,Tryz.ntmps302;go_wp2;go_ret;refine⟨lI ?_,rfl⟩;rw[len8tab_get,gL 24 (x / 65536 / 256).toNat,jk x 24 (x / 65536 / 256).toNat (by rw[show (2:Nat) ^ 24=16777216 from rfl];omega)];rfl
  go_enter Tryz.func302,Tryz.ntmps302;go_wp2;go_ret;refine⟨lI ?_,rfl⟩;rw[len8tab_get,gL 16 (x / 65536).toNat,jk x 16 (x / 65536).toNat (by rw[show (2:Nat) ^ 16=65536 from rfl];omega)];rfl
 by_cases c2:256<=x
 ·go_enter Tryz.func302,Tryz.ntmps302;go_wp2;go_ret;refine⟨lI ?_,rfl⟩;rw[len8tab_get,gL 8 (x / 256).toNat,jk x 8 (x / 256).toNat (by rw[show (2:Nat) ^ 8=256 from rfl];omega)];rfl
 go_enter Tryz.func302,Tryz.ntmps302;go_wp2;go_ret;refine⟨lI ?_,rfl⟩;rw[len8tab_get];have:=bitLen_le8 x.toNat (by omega);rw[w64 (bitLen x.toNat:Int),w64 _]
theorem mZ(h:n≠0):1<=bitLen n:=by unfold bitLen;rw[if_neg h];omega
theorem im(h:n < 18446744073709551616:=by omega):bitLen n<=64:=by
 unfold bitLen;split
 ·omega
 have:=(Nat.log2_lt (k:=64) ‹_›).2 (by omega);omega
theorem GB(x:Int)(w:World)(h0:0<=x)(h1:x < 18446744073709551616) :
  Calls Tryz.prog 266 #[.int .u64 x] w λe w'=>e=.returned (.int .i64 (64 - bitLen x.toNat))/\w'=w:=by
 have c:=im (n:=x.toNat);have t1:=AS x w h0 h1;generalize bitLen x.toNat=L at *;go_enter Tryz.func266,Tryz.ntmps266;go_wp2_with fail;refine t1.mono ?_
 rintro e b ⟨rfl,rfl⟩;go_wp2;go_ret;exact⟨rfl,rfl⟩
end
section
variable {y y1 y0 u a q r:Int}
theorem GH(y:Int)(w:World)(h1:y < 18446744073709551616)(h0:0 < y:=by omega) :
    CP 266 #[.int .u64 y] w λe w'=>∃ s:Nat,e=.returned (.int .i64 s)∧s≤63∧Hid (9223372036854775808≤y * 2 ^ s∧y * 2 ^ s < 18446744073709551616)∧w'=w:=by
  refine(GB y w (by omega) h1).mono ?_
  rintro e w' ⟨rfl,rfl⟩;have g:=im (n:=y.toNat);have f:=mZ (n:=y.toNat) (by omega);have d:=bitLen_spec y.toNat;generalize bitLen y.toNat=L at *;refine⟨64 - L,lI (by omega),by omega,?_,rfl⟩;have a:=d.1;have b:=d.2 (by omega);obtain⟨n,rfl⟩:∃ n:Nat,y=n:=⟨y.toNat,by omega⟩;rw[Int.toNat_natCast] at a b
  have e1:(2:Nat) ^ L * 2 ^ (64 - L)=18446744073709551616:=by rw[← Nat.pow_add,show L+(64 - L)=64 from by omega]
  have e2:(2:Nat) ^ (L - 1) * 2 ^ (64 - L)=9223372036854775808:=by rw[← Nat.pow_add,show L - 1+(64 - L)=63 from by omega]
  have k1:n * 2 ^ (64 - L) < 2 ^ L * 2 ^ (64 - L):=Nat.mul_lt_mul_of_pos_right a (Nat.two_pow_pos _)
  have k2:2 ^ (L - 1) * 2 ^ (64 - L)≤n * 2 ^ (64 - L):=Nat.mul_le_mul_right _ b;rw[e1] at k1;rw[e2] at k2
  have c:((n * 2 ^ (64 - L):Nat):Int)=(n:Int) * 2 ^ (64 - L):=by rw[Int.natCast_mul,Int.natCast_pow];rfl
  show _∧_
  rw[← c];omega
structure fc(y y1 u a q r:Int):Prop where
 eq:q * y1+r=u
 r0:0<=r
 up:u * 4294967296+a < (q+1) * y
 q0:0<=q
 qb:q<=4294967297
theorem fc.start(e:y=y1 * 4294967296+y0)(h0:0<=y0)(h1:y0 < 4294967296)(f:2147483648<=y1)(u0:0<=u)(g:u < y)(a0:0<=a)(a1:a < 4294967296) :
  fc y y1 u a (u / y1) (u % y1):=by
 have hq:=Int.mul_ediv_add_emod u y1;have c:=Int.emod_nonneg u (show y1≠0 by omega);have d:=Int.emod_lt_of_pos u (show 0 < y1 by omega)
 have b:0<=u / y1:=Int.ediv_nonneg u0 (by omega);generalize u / y1=q at *;generalize u % y1=r at *;refine⟨by rw[Int.mul_comm];exact hq,c,?_,b,?_⟩
 ·have k1:(q + 1) * y=(y1 * q + y1) * 4294967296 + (q + 1) * y0:=by rw[e]; grind
  have k2:0<=(q+1) * y0:=Int.mul_nonneg (by omega) h0;rw[k1];omega
 by_cases hc:q<=4294967297
 ·exact hc
 have k:y1 * 4294967298<=y1 * q:=Int.mul_le_mul_of_nonneg_left (by omega) (by omega);omega
theorem fc.big(h:fc y y1 u a q r)(a1:a < 4294967296)(y0:0 < y)(c:u < y)(hq:4294967296<=q)(b:0<=y1):fc y y1 u a (q - 1) (r+y1):=by
 have k:y * 4294967296<=y * q:=Int.mul_le_mul_of_nonneg_left hq (by omega);have:=h.eq;have:=h.r0;have:=h.qb;refine⟨by rw[Int.sub_mul];omega,by omega,?_,by omega,by omega⟩;rw[Int.sub_add_cancel,Int.mul_comm q y];omega
theorem fc.more(h:fc y y1 u a q r)(e:y=y1 * 4294967296+y0)(u0:0<=u)(a0:0<=a)(f:0<=y1)(hc:4294967296 * r+a < q * y0):fc y y1 u a (q - 1) (r+y1):=by
 have he:=h.eq;have:=h.r0;have:=h.qb;have:=h.q0
 have k:q * y=q * y1 * 4294967296+q * y0:=by rw[e];grind
 have b:u * 4294967296+a < q * y:=by rw[k];omega
 have d:1<=q:=by
  by_cases c:1<=q
  ·exact c
  have:q=0:=by omega
  subst this;simp at b;omega
 refine⟨by rw[Int.sub_mul];omega,by omega,?_,by omega,by omega⟩;rw[Int.sub_add_cancel];exact b
structure Dig(y u a q:Int):Prop where
 lo:q * y<=u * 4294967296+a
 hi:u * 4294967296+a < (q+1) * y
 q0:0<=q
 q1:q < 4294967296
theorem fc.dig(h:fc y y1 u a q r)(e:y=y1 * 4294967296+y0)(b:0 < y)(d:u < y)(a1:a < 4294967296)(hc:q * y0<=4294967296 * r+a):Dig y u a q:=by
 have he:=h.eq
 have k:q * y=q * y1 * 4294967296+q * y0:=by rw[e];grind
 have lo:q * y<=u * 4294967296+a:=by rw[k];omega
 refine⟨lo,h.up,h.q0,?_⟩;by_cases c:q < 4294967296
 ·exact c
 have:4294967296 * y<=q * y:=Int.mul_le_mul_of_nonneg_right (by omega) (by omega);omega
theorem fc.lP(h:fc y y1 u a q r)(e:y=y1 * 4294967296+y0)(b:0 < y)(c:u < y)(a0:0<=a)(a1:a < 4294967296)(h0:0<=y0)(h1:y0 < 4294967296)(hq:q<=4294967296)(hr:4294967296<=r):Dig y u a q :=
 h.dig e b c a1 (by
  have:q * y0<=4294967296 * y0:=Int.mul_le_mul_of_nonneg_right hq h0
  omega)
theorem Dig.rest(h:Dig y u a q):0<=u * 4294967296+a - q * y/\u * 4294967296+a - q * y < y:=by
 have:=h.lo;have h2:=h.hi;rw[Int.add_mul] at h2;omega
theorem ediv64(x S T:Int)(hS:0 < S)(h:S * T=18446744073709551616):x * S / 18446744073709551616=x / T:=by
 rw[<- h,Int.mul_comm S T,Int.mul_ediv_mul_of_pos_left _ _ hS]
theorem qm(a b:Int)(s:Nat)(k:Int)(h:a=k * 2 ^ s)(hk:0<=k)(c:0<=b)(j:b < 2 ^ s)(d:a < 18446744073709551616:=by omega)(hb2:b < 18446744073709551616:=by omega):bits .or .u64 a b=a+b:=by
 have i:(0:Int) < 2 ^ s:=Int.pow_pos (by decide)
 have f:0<=a:=by rw[h];exact Int.mul_nonneg hk (Int.le_of_lt i)
 rw[u64_or a b f d c hb2];obtain⟨k,rfl⟩:=Int.eq_ofNat_of_zero_le hk;obtain⟨b,rfl⟩:=Int.eq_ofNat_of_zero_le c
 have e:a.toNat=2 ^ s * k:=by
  have:a=((2 ^ s * k:Nat):Int):=by rw[h,Int.natCast_mul,Int.natCast_pow,Int.mul_comm];rfl
  rw[this,Int.toNat_natCast]
 have g:b < 2 ^ s:=by
  have:((2 ^ s:Nat):Int)=2 ^ s:=by rw[Int.natCast_pow];rfl
  omega
 rw[e,Int.toNat_natCast,<- Nat.two_pow_add_eq_or_of_lt g,<- e];omega
theorem Co(hi lo y:Int)(s:Nat)(h0:0<=hi)(h1:hi < y)(h:0<=lo)(l1:lo < 18446744073709551616)(hs:s<=63)(m:9223372036854775808<=y * 2 ^ s/\y * 2 ^ s < 18446744073709551616) :
  ∃ Y Yh Yl U A A1 A0:Int,IntKind.u64.wrap (y * 2 ^ s)=Y/\Y / 4294967296=Yh/\bits .and .u64 Y 4294967295=Yl/\bits .or .u64 (IntKind.u64.wrap (hi * 2 ^ s)) (lo / 2 ^ (64 - s))=U /\
   IntKind.u64.wrap (lo * 2 ^ s)=A/\A / 4294967296=A1/\bits .and .u64 A 4294967295=A0/\0<=Yl/\Yl < 4294967296/\2147483648<=Yh/\Yh < 4294967296/\0<=U/\U < Y/\Y < 18446744073709551616/\0<=A1/\A1 < 4294967296/\0<=A0/\A0 < 4294967296 /\
   Hid (Y=Yh * 4294967296+Yl)/\Hid ((U * 4294967296+A1) * 4294967296+A0=(hi * 18446744073709551616+lo) * 2 ^ s/\Y=y * 2 ^ s):=by
 have hS:(0:Int) < 2 ^ s:=Int.pow_pos (by decide)
 have g:(0:Int) < 2 ^ (64 - s):=Int.pow_pos (by decide)
 have c:(2:Int) ^ s * 2 ^ (64 - s)=18446744073709551616:=by rw[<- Int.pow_add,show s+(64 - s)=64 from by omega];rfl
 have f:(2:Int) ^ s * 1<=2 ^ s * 2 ^ (64 - s):=Int.mul_le_mul_of_nonneg_left (by omega) (Int.le_of_lt hS)
 have e:0<=hi * 2 ^ s:=Int.mul_nonneg h0 (Int.le_of_lt hS)
 have d:(hi+1) * 2 ^ s<=y * 2 ^ s:=Int.mul_le_mul_of_nonneg_right (by omega) (Int.le_of_lt hS);rw[Int.add_mul,Int.one_mul] at d
 have k:0<=lo * 2 ^ s:=Int.mul_nonneg h (Int.le_of_lt hS)
 have b:0<=lo / 2 ^ (64 - s):=Int.ediv_nonneg h (Int.le_of_lt g)
 have a:lo / 2 ^ (64 - s) < 2 ^ s:=by
  rw[Int.ediv_lt_iff_lt_mul g,c];exact l1
 have hq:=ediv64 lo (2 ^ s) (2 ^ (64 - s)) hS c
 have i:bits .or .u64 (IntKind.u64.wrap (hi * 2 ^ s)) (lo / 2 ^ (64 - s))=hi * 2 ^ s+lo / 2 ^ (64 - s):=by
  rw[IntKind.wrap_u64,Int.emod_eq_of_lt e (by omega)];exact qm _ _ s hi rfl h0 b a
 have j:IntKind.u64.wrap (y * 2 ^ s)=y * 2 ^ s:=by rw[IntKind.wrap_u64];omega
 have hA:IntKind.u64.wrap (lo * 2 ^ s)=lo * 2 ^ s % 18446744073709551616:=IntKind.wrap_u64 _
 have e3:(hi * 18446744073709551616+lo) * 2 ^ s=hi * 2 ^ s * 18446744073709551616+lo * 2 ^ s:=by grind
 rw[i,j,hA];rw[<- hq] at b a ⊢;rw[e3];generalize hi * 2 ^ s=H at *;generalize lo * 2 ^ s=l at *;generalize y * 2 ^ s=Y at *;refine⟨Y,_,_,_,_,_,_,rfl,rfl,rW _ (by omega) (by omega),rfl,rfl,rfl,rW _ (by omega) (by omega),by omega,by omega,by omega,by omega,by omega,by omega,by omega,by omega,by omega,by omega,by omega,?_,?_,rfl⟩
 ·show _=_;omega
 omega
theorem yl(U A p V:Int)(h:V=U * 4294967296+A - p)(h0:0<=V)(h1:V < 18446744073709551616):IntKind.u64.wrap (IntKind.u64.wrap (IntKind.u64.wrap (U * 4294967296)+A) - IntKind.u64.wrap p)=V:=by
 simp only[IntKind.wrap_u64];omega
theorem Bw(u y:Int)(hu:0<=u)(a:u < 18446744073709551616)(hy:0 < y):IntKind.u64.wrap (u - IntKind.u64.wrap (u / y * y))=u % y:=by
 have b:=Int.mul_ediv_add_emod u y;have c:=Int.emod_nonneg u (show y≠0 by omega);have d:=Int.mul_nonneg (Int.ediv_nonneg hu (Int.le_of_lt hy)) (Int.le_of_lt hy);rw[Int.mul_comm] at b;generalize u / y * y=p at *;generalize u % y=r at *;simp only[IntKind.wrap_u64];omega
theorem iA(Y b c u a:Int)(hy:Y=b * 4294967296+c)(h0:0<=c)(h1:c < 4294967296)(d:2147483648<=b)(f:b < 4294967296)(u0:0<=u)(e:u < Y)(g:Y < 18446744073709551616)(a0:0<=a)(a1:a < 4294967296) :
  IntKind.u64.wrap (u - IntKind.u64.wrap (u / b * b))=u % b/\fc Y b u a (u / b) (u % b)/\u % b < 4294967296 :=
 ⟨Bw u b u0 (by omega) (by omega),fc.start hy h0 h1 d u0 e a0 a1,by have:=Int.emod_lt_of_pos u (show 0 < b by omega);omega⟩
theorem dq{Y:Int}(h:Dig Y u a q)(b:Y < 18446744073709551616):∃ V:Int,IntKind.u64.wrap (IntKind.u64.wrap (IntKind.u64.wrap (u * 4294967296)+a) - IntKind.u64.wrap (q * Y))=V/\0<=V/\V < Y/\Hid (V=u * 4294967296+a - q * Y):=by
 have:=h.rest;exact⟨u * 4294967296+a - q * Y,yl u a (q * Y) _ rfl this.1 (by omega),this.1,this.2,rfl⟩
theorem fh(hi lo y Y U h b Q V a:Int)(s:Nat)(e:(U * 4294967296+h) * 4294967296+b=(hi * 18446744073709551616+lo) * 2 ^ s)(i:Y=y * 2 ^ s)(j:V=U * 4294967296+h - Q * Y)(f:Dig Y V b a)(hy:0 < y:=by omega) :
    Q * 4294967296+a=(hi * 18446744073709551616+lo) / y∧(V * 4294967296+b - a * Y) / 2 ^ s=(hi * 18446744073709551616+lo) % y:=by
  have hS:(0:Int) < 2 ^ s:=Int.pow_pos (by decide);have g:=f.rest;have l:=f.q0;have k:=f.q1;generalize hN:hi * 18446744073709551616+lo=N at *
  have key:N * 2 ^ s=(Q * 4294967296+a) * y * 2 ^ s+(V * 4294967296+b - a * Y):=by rw[← e,j,i];grind
  generalize hR:V * 4294967296+b - a * Y=R at *
  have hdiv:R=(N - (Q * 4294967296+a) * y) * 2 ^ s:=by rw[Int.sub_mul];omega
  generalize hK:Q * 4294967296+a=K at *;generalize hD:N - K * y=D at *;rw[hdiv] at g;rw[i] at g
  have d0:0≤D:=by
    by_cases c:0≤D
    · exact c
    · have:D * 2 ^ s≤-1 * 2 ^ s:=Int.mul_le_mul_of_nonneg_right (by omega) (Int.le_of_lt hS)
      omega
  have d1:D < y:=Int.lt_of_mul_lt_mul_right g.2 (Int.le_of_lt hS)
  have d:N=y * K+D:=by rw[← hD,Int.mul_comm y K];omega
  constructor
  · have : N / y = K := by rw[d, Int.add_comm, Int.add_mul_ediv_left _ _ (by omega), Int.ediv_eq_zero_of_lt d0 d1, Int.zero_add]
    omega
  · rw[hdiv,Int.mul_ediv_cancel _ (by omega),d,Int.add_comm,Int.add_mul_emod_self_left,Int.emod_eq_of_lt d0 d1]
theorem o8(hi lo y:Int)(w:World)(h1:hi < y)(l0:0≤lo)(l1:lo < 18446744073709551616)(y1:y < 18446744073709551616)(h0:0 < hi:=by omega) :
    Calls Tryz.prog 388 #[.int .u64 hi,.int .u64 lo,.int .u64 y] w λe w'=>e=.returned (.tuple #[.int .u64 ((hi * 18446744073709551616+lo) / y),.int .u64 ((hi * 18446744073709551616+lo) % y)])∧w'=w:=by
  have hb0:(hi == 0)=false:=beq_eq_false_iff_ne.2 (by omega)
  have hb1:(y == 0)=false:=beq_eq_false_iff_ne.2 (by omega);go_enter Tryz.func388,Tryz.ntmps388;go_wp2_with fail;refine(GH y _ y1).mono ?_
  rintro e w' ⟨s,rfl,hs,HS,rfl⟩;obtain⟨Y,n,L,U,A,v,i,e1,e2,e3,e4,e5,e6,e7,f,m,P,S,u0,u1,E,a10,M,X,j,x,z⟩:= Co hi lo y s (by omega) h1 l0 l1 hs HS.out;obtain⟨d2,t,o⟩:= iA Y n L U v x.out f m P S u0 u1 E a10 M;go_wp2_with fail;clear e1 e2 e3 e4 e5 e6 e7 d2 HS hb0 hb1;go_loop [15,16] (λtq tr=>∃ q r:Int,tq=.int .u64 q∧tr=.int .u64 r∧fc Y n U v q r∧r < 4294967296) (λtq _=>(intOf tq).toNat)
  case atStart=>exact⟨_,_,rfl,rfl,t,o⟩
  case round =>
    clear t o;obtain⟨q,r,rfl,rfl,g,hr⟩:= hrel;have q0:=g.q0;have qb:=g.qb;have r0:=g.r0;by_cases c1:4294967296≤q
    · have b:=g.big M (by omega) u1 c1 (by omega)
      obtain⟨Q,H⟩:∃ Q,q - 1=Q:=⟨_,rfl⟩;obtain⟨R,K⟩:∃ R,r+n=R:=⟨_,rfl⟩;rw[H,K] at b;have O:=b.q0
      have G:Q < q:=by omega
      have W:R < 8589934592:=by omega
      have T:=b.r0;by_cases c2:4294967296≤R
      · have d:Hid (Dig Y U v Q):=b.lP x.out (by omega) u1 (by omega) M f m (by omega) c2
        have N:=d.out.q1;obtain⟨V,v1,v2,C,D⟩:= dq d.out E;obtain⟨d2,t,o⟩:= iA Y n L V i x.out f m P S v2 C E X j;obtain⟨l,u⟩:∃ l,l=Q:=⟨_,rfl⟩
        have QQ0:0≤l:=by omega
        have aa:l < 4294967296:=by omega
        have D:Hid (V=U * 4294967296+v - l * Y):=by rw[u];exact D
        go_wp2_with fail;rw[← u];clear v1 d2 u;go_loop [18,16] (λtq tr=>∃ q r:Int,tq=.int .u64 q∧tr=.int .u64 r∧fc Y n V i q r∧r < 4294967296) (λtq _=>(intOf tq).toNat)
        case atStart=>exact⟨_,_,rfl,rfl,t,o⟩
        case round =>
          clear t o d;obtain⟨q,r,rfl,rfl,g,hr⟩:= hrel;have q0:=g.q0;have qb:=g.qb;have r0:=g.r0;by_cases c1:4294967296≤q
          · have b:=g.big j (by omega) C c1 (by omega)
            obtain⟨Q,H⟩:∃ Q,q - 1=Q:=⟨_,rfl⟩;obtain⟨R,K⟩:∃ R,r+n=R:=⟨_,rfl⟩;rw[H,K] at b;have O:=b.q0
            have G:Q < q:=by omega
            have W:R < 8589934592:=by omega
            have T:=b.r0;by_cases c2:4294967296≤R
            · have d:Hid (Dig Y V i Q):=b.lP x.out (by omega) C (by omega) j f m (by omega) c2
              have N:=d.out.q1;obtain⟨Z,z1,z2,z3,B⟩:= dq d.out E;go_wp2;go_ret2;have c:=fh hi lo y Y U v i l V Q s z.out.1 z.out.2 D.out d.out;exact⟨oG c.1 (by rw[← c.2,← B.out]),rfl⟩
            · have I:Hid (fc Y n V i Q R):=b
              clear b g;go_wp2;go_round
              case rel=>exact⟨Q,R,rfl,rfl,I.out,by omega⟩
              case measure=>simp[intOf];omega
          · obtain⟨p,J⟩:∃ p,q * L=p:=⟨_,rfl⟩
            have p0:0≤p:=by rw[← J];exact Int.mul_nonneg q0 f
            have p1:p < 18446744073709551616:=by
              have:=Int.mul_le_mul (show q≤4294967295 by omega) (show L≤4294967295 by omega) f (by decide);omega
            by_cases c3:4294967296 * r+i < p
            · have b:=g.more x.out (by omega) (by omega) (by omega) (by rw[J];exact c3)
              obtain⟨Q,H⟩:∃ Q,q - 1=Q:=⟨_,rfl⟩;obtain⟨R,K⟩:∃ R,r+n=R:=⟨_,rfl⟩;rw[H,K] at b;have O:=b.q0
              have G:Q < q:=by omega
              have W:R < 8589934592:=by omega
              have T:=b.r0;by_cases c2:4294967296≤R
              · have d:Hid (Dig Y V i Q):=b.lP x.out (by omega) C (by omega) j f m (by omega) c2
                have N:=d.out.q1;obtain⟨Z,z1,z2,z3,B⟩:= dq d.out E;go_wp2;go_ret2;have c:=fh hi lo y Y U v i l V Q s z.out.1 z.out.2 D.out d.out;exact⟨oG c.1 (by rw[← c.2,← B.out]),rfl⟩
              · have I:Hid (fc Y n V i Q R):=b
                clear b g;go_wp2;go_round
                case rel=>exact⟨Q,R,rfl,rfl,I.out,by omega⟩
                case measure=>simp[intOf];omega
            · have d:Hid (Dig Y V i q):=g.dig x.out (by omega) C j (by rw[J];omega)
              have N:=d.out.q1;have O:=d.out.q0;clear g
              have F:∃ Q,Q=q:=⟨_,rfl⟩;obtain⟨Q,rfl⟩:= F;obtain⟨Z,z1,z2,z3,B⟩:= dq d.out E;go_wp2;go_ret2;have c:=fh hi lo y Y U v i l V Q s z.out.1 z.out.2 D.out d.out;exact⟨oG c.1 (by rw[← c.2,← B.out]),rfl⟩
      · have I:Hid (fc Y n U v Q R):=b
        clear b g;go_wp2;go_round
        case rel=>exact⟨Q,R,rfl,rfl,I.out,by omega⟩
        case measure=>simp[intOf];omega
    · obtain⟨p,J⟩:∃ p,q * L=p:=⟨_,rfl⟩
      have p0:0≤p:=by rw[← J];exact Int.mul_nonneg q0 f
      have p1:p < 18446744073709551616:=by
        have:=Int.mul_le_mul (show q≤4294967295 by omega) (show L≤4294967295 by omega) f (by decide);omega
      by_cases c3:4294967296 * r+v < p
      · have b:=g.more x.out (by omega) (by omega) (by omega) (by rw[J];exact c3)
        obtain⟨Q,H⟩:∃ Q,q - 1=Q:=⟨_,rfl⟩;obtain⟨R,K⟩:∃ R,r+n=R:=⟨_,rfl⟩;rw[H,K] at b;have O:=b.q0
        have G:Q < q:=by omega
        have W:R < 8589934592:=by omega
        have T:=b.r0;by_cases c2:4294967296≤R
        · have d:Hid (Dig Y U v Q):=b.lP x.out (by omega) u1 (by omega) M f m (by omega) c2
          have N:=d.out.q1;obtain⟨V,v1,v2,C,D⟩:= dq d.out E;obtain⟨d2,t,o⟩:= iA Y n L V i x.out f m P S v2 C E X j;obtain⟨l,u⟩:∃ l,l=Q:=⟨_,rfl⟩
          have QQ0:0≤l:=by omega
          have aa:l < 4294967296:=by omega
          have D:Hid (V=U * 4294967296+v - l * Y):=by rw[u];exact D
          go_wp2_with fail;rw[← u];clear v1 d2 u;go_loop [18,16] (λtq tr=>∃ q r:Int,tq=.int .u64 q∧tr=.int .u64 r∧fc Y n V i q r∧r < 4294967296) (λtq _=>(intOf tq).toNat)
          case atStart=>exact⟨_,_,rfl,rfl,t,o⟩
          case round =>
            clear t o d;obtain⟨q,r,rfl,rfl,g,hr⟩:= hrel;have q0:=g.q0;have qb:=g.qb;have r0:=g.r0;by_cases c1:4294967296≤q
            · have b:=g.big j (by omega) C c1 (by omega)
              obtain⟨Q,H⟩:∃ Q,q - 1=Q:=⟨_,rfl⟩;obtain⟨R,K⟩:∃ R,r+n=R:=⟨_,rfl⟩;rw[H,K] at b;have O:=b.q0
              have G:Q < q:=by omega
              have W:R < 8589934592:=by omega
              have T:=b.r0;by_cases c2:4294967296≤R
              · have d:Hid (Dig Y V i Q):=b.lP x.out (by omega) C (by omega) j f m (by omega) c2
                have N:=d.out.q1;obtain⟨Z,z1,z2,z3,B⟩:= dq d.out E;go_wp2;go_ret2;have c:=fh hi lo y Y U v i l V Q s z.out.1 z.out.2 D.out d.out;exact⟨oG c.1 (by rw[← c.2,← B.out]),rfl⟩
              · have I:Hid (fc Y n V i Q R):=b
                clear b g;go_wp2;go_round
                case rel=>exact⟨Q,R,rfl,rfl,I.out,by omega⟩
                case measure=>simp[intOf];omega
            · obtain⟨p,J⟩:∃ p,q * L=p:=⟨_,rfl⟩
              have p0:0≤p:=by rw[← J];exact Int.mul_nonneg q0 f
              have p1:p < 18446744073709551616:=by
                have:=Int.mul_le_mul (show q≤4294967295 by omega) (show L≤4294967295 by omega) f (by decide);omega
              by_cases c3:4294967296 * r+i < p
              · have b:=g.more x.out (by omega) (by omega) (by omega) (by rw[J];exact c3)
                obtain⟨Q,H⟩:∃ Q,q - 1=Q:=⟨_,rfl⟩;obtain⟨R,K⟩:∃ R,r+n=R:=⟨_,rfl⟩;rw[H,K] at b;have O:=b.q0
                have G:Q < q:=by omega
                have W:R < 8589934592:=by omega
                have T:=b.r0;by_cases c2:4294967296≤R
                · have d:Hid (Dig Y V i Q):=b.lP x.out (by omega) C (by omega) j f m (by omega) c2
                  have N:=d.out.q1;obtain⟨Z,z1,z2,z3,B⟩:= dq d.out E;go_wp2;go_ret2;have c:=fh hi lo y Y U v i l V Q s z.out.1 z.out.2 D.out d.out;exact⟨oG c.1 (by rw[← c.2,← B.out]),rfl⟩
                · have I:Hid (fc Y n V i Q R):=b
                  clear b g;go_wp2;go_round
                  case rel=>exact⟨Q,R,rfl,rfl,I.out,by omega⟩
                  case measure=>simp[intOf];omega
              · have d:Hid (Dig Y V i q):=g.dig x.out (by omega) C j (by rw[J];omega)
                have N:=d.out.q1;have O:=d.out.q0;clear g
                have F:∃ Q,Q=q:=⟨_,rfl⟩;obtain⟨Q,rfl⟩:= F;obtain⟨Z,z1,z2,z3,B⟩:= dq d.out E;go_wp2;go_ret2;have c:=fh hi lo y Y U v i l V Q s z.out.1 z.out.2 D.out d.out;exact⟨oG c.1 (by rw[← c.2,← B.out]),rfl⟩
        · have I:Hid (fc Y n U v Q R):=b
          clear b g;go_wp2;go_round
          case rel=>exact⟨Q,R,rfl,rfl,I.out,by omega⟩
          case measure=>simp[intOf];omega
      · have d:Hid (Dig Y U v q):=g.dig x.out (by omega) u1 M (by rw[J];omega)
        have N:=d.out.q1;have O:=d.out.q0;clear g
        have F:∃ Q,Q=q:=⟨_,rfl⟩;obtain⟨Q,rfl⟩:= F;obtain⟨V,v1,v2,C,D⟩:= dq d.out E;obtain⟨d2,t,o⟩:= iA Y n L V i x.out f m P S v2 C E X j;obtain⟨l,u⟩:∃ l,l=Q:=⟨_,rfl⟩
        have QQ0:0≤l:=by omega
        have aa:l < 4294967296:=by omega
        have D:Hid (V=U * 4294967296+v - l * Y):=by rw[u];exact D
        go_wp2_with fail;rw[← u];clear v1 d2 u;go_loop [18,16] (λtq tr=>∃ q r:Int,tq=.int .u64 q∧tr=.int .u64 r∧fc Y n V i q r∧r < 4294967296) (λtq _=>(intOf tq).toNat)
        case atStart=>exact⟨_,_,rfl,rfl,t,o⟩
        case round =>
          clear t o d;obtain⟨q,r,rfl,rfl,g,hr⟩:= hrel;have q0:=g.q0;have qb:=g.qb;have r0:=g.r0;by_cases c1:4294967296≤q
          · have b:=g.big j (by omega) C c1 (by omega)
            obtain⟨Q,H⟩:∃ Q,q - 1=Q:=⟨_,rfl⟩;obtain⟨R,K⟩:∃ R,r+n=R:=⟨_,rfl⟩;rw[H,K] at b;have O:=b.q0
            have G:Q < q:=by omega
            have W:R < 8589934592:=by omega
            have T:=b.r0;by_cases c2:4294967296≤R
            · have d:Hid (Dig Y V i Q):=b.lP x.out (by omega) C (by omega) j f m (by omega) c2
              have N:=d.out.q1;obtain⟨Z,z1,z2,z3,B⟩:= dq d.out E;go_wp2;go_ret2;have c:=fh hi lo y Y U v i l V Q s z.out.1 z.out.2 D.out d.out;exact⟨oG c.1 (by rw[← c.2,← B.out]),rfl⟩
            · have I:Hid (fc Y n V i Q R):=b
              clear b g;go_wp2;go_round
              case rel=>exact⟨Q,R,rfl,rfl,I.out,by omega⟩
              case measure=>simp[intOf];omega
          · obtain⟨p,J⟩:∃ p,q * L=p:=⟨_,rfl⟩
            have p0:0≤p:=by rw[← J];exact Int.mul_nonneg q0 f
            have p1:p < 18446744073709551616:=by
              have:=Int.mul_le_mul (show q≤4294967295 by omega) (show L≤4294967295 by omega) f (by decide);omega
            by_cases c3:4294967296 * r+i < p
            · have b:=g.more x.out (by omega) (by omega) (by omega) (by rw[J];exact c3)
              obtain⟨Q,H⟩:∃ Q,q - 1=Q:=⟨_,rfl⟩;obtain⟨R,K⟩:∃ R,r+n=R:=⟨_,rfl⟩;rw[H,K] at b;have O:=b.q0
              have G:Q < q:=by omega
              have W:R < 8589934592:=by omega
              have T:=b.r0;by_cases c2:4294967296≤R
              · have d:Hid (Dig Y V i Q):=b.lP x.out (by omega) C (by omega) j f m (by omega) c2
                have N:=d.out.q1;obtain⟨Z,z1,z2,z3,B⟩:= dq d.out E;go_wp2;go_ret2;have c:=fh hi lo y Y U v i l V Q s z.out.1 z.out.2 D.out d.out;exact⟨oG c.1 (by rw[← c.2,← B.out]),rfl⟩
              · have I:Hid (fc Y n V i Q R):=b
                clear b g;go_wp2;go_round
                case rel=>exact⟨Q,R,rfl,rfl,I.out,by omega⟩
                case measure=>simp[intOf];omega
            · have d:Hid (Dig Y V i q):=g.dig x.out (by omega) C j (by rw[J];omega)
              have N:=d.out.q1;have O:=d.out.q0;clear g
              have F:∃ Q,Q=q:=⟨_,rfl⟩;obtain⟨Q,rfl⟩:= F;obtain⟨Z,z1,z2,z3,B⟩:= dq d.out E;go_wp2;go_ret2;have c:=fh hi lo y Y U v i l V Q s z.out.1 z.out.2 D.out d.out;exact⟨oG c.1 (by rw[← c.2,← B.out]),rfl⟩
theorem oh(lo y:Int)(w:World)(c:0≤lo)(l1:lo < 18446744073709551616)(y1:y < 18446744073709551616)(hy:0 < y:=by omega) :
    Calls Tryz.prog 388 #[.int .u64 0,.int .u64 lo,.int .u64 y] w λe w'=>e=.returned (.tuple #[.int .u64 (lo / y),.int .u64 (lo % y)])∧∃ n,w'=w.drewN n:=by
  have b:(y == 0)=false:=beq_eq_false_iff_ne.2 (by omega);go_enter Tryz.func388,Tryz.ntmps388;go_wp2_with fail;go_quiet (fail);go_wp2;go_ret2;exact⟨rfl,_,rfl⟩
theorem div64(hi lo y:Int)(w:World)(h0:0<=hi)(h1:hi < y)(a:0<=lo)(l1:lo < 18446744073709551616)(y1:y < 18446744073709551616) :
  CP 388 #[.int .u64 hi,.int .u64 lo,.int .u64 y] w λe w'=>∃ q r:Int,e=.returned (.tuple #[.int .u64 q,.int .u64 r])/\0<=q/\q < 18446744073709551616/\0<=r/\r < y/\Hid (q * y+r=hi * 18446744073709551616+lo)/\∃ n,w'=w.drewN n:=by
 have fin:∀ N:Int,0<=N->N < y * 18446744073709551616->0<=N / y/\N / y < 18446744073709551616/\0<=N % y/\N % y < y/\Hid (N / y * y+N % y=N):=by
  intro N n0 b;refine⟨Int.ediv_nonneg n0 (by omega),(Int.ediv_lt_iff_lt_mul (by omega)).2 (by rw[Int.mul_comm];exact b),Int.emod_nonneg _ (by omega),Int.emod_lt_of_pos _ (by omega),?_⟩
  show _=_
  rw[Int.mul_comm];exact Int.mul_ediv_add_emod N y
 by_cases c:hi=0
 ·subst c;refine(oh lo y w a l1 y1).mono ?_
  rintro e w' ⟨rfl,hw⟩;obtain⟨f1,f2,f3,f4,f5⟩:=fin lo a (by omega);exact⟨_,_,rfl,f1,f2,f3,f4,by simpa using f5,hw⟩
 refine(o8 hi lo y w h1 a l1 y1).mono ?_
 rintro e w' ⟨rfl,rfl⟩;obtain⟨f1,f2,f3,f4,f5⟩:=fin (hi * 18446744073709551616+lo) (by omega) (by omega);exact⟨_,_,rfl,f1,f2,f3,f4,f5,0,rfl⟩
end
section
variable {l:List Int}{h:Nat}
theorem dQ(hl:h < l.length):val (l.drop h)=nth l h+18446744073709551616 * val (l.drop (h+1)):=by
 rw[List.drop_eq_getElem_cons hl,val,cF hl]
structure ke(lz:List Int)(d:Int)(h:Nat)(lz1:List Int)(left:Int):Prop where
 len:lz1.length=lz.length
 words:Words lz1
 low:∀ i,i < h->nth lz1 i=nth lz i
 val:Lim.val (lz1.drop h) * d+left=Lim.val (lz.drop h)
theorem ke.step{lz lz1:List Int}{d left q r:Int}(hv:ke lz d (h+1) lz1 left)(b:h < lz.length)(q0:0<=q)(q1:q < 18446744073709551616)(e:q * d+r=left * 18446744073709551616+nth lz h):ke lz d h (lz1.set h q) r:=by
 have a:=hv.len;refine⟨by simp[a],hv.words.set h q0 q1,λi hi=>by rw[dB,if_neg (by omega)];exact hv.low i (by omega),?_⟩;rw[dQ (by simp;omega),dB,if_pos rfl,List.drop_set,if_pos (by omega),dQ b,<- hv.val];grind
theorem l6(s:Option Addr)(j l b F:Nat)(d:Int)(lz:List Int)(w:World)(o:lz.length=b)(hbig:b<=2199023255552)(n:b<=F)(d0:0 < d)(d1:d < 18446744073709551616)(B:Words lz)(x:At w s j l lz)(D:dN w j l b) :
  Calls Tryz.prog 372 #[.slice s b F,.int .u64 d] w λe w'=>∃ (left:Int) (lz':List Int),e=.returned (.int .u64 left)/\0<=left/\left < d/\lz'.length=b/\Words lz'/\At w' s j l lz'/\Wr j l b w w'/\val lz' * d+left=val lz:=by
 go_enter Tryz.func372,Tryz.ntmps372;go_wp2;go_loopw [5,10] (λtc C wr=>∃ (k:Nat) (c:Int) (f:List Int),k<=b/\C=.int .i64 k/\tc=.int .u64 c/\0<=c/\c < d/\ke lz d (b - k) f c/\At wr s j l f/\Wr j l b w wr) (λ_ C _=>b - (intOf C).toNat)
 case atStart=>exact⟨0,0,lz,Nat.zero_le _,rfl,rfl,by decide,d0,⟨rfl,B,λ_ _=>rfl,by simp[<- o,val]⟩,x,Wr.refl _ _ _ _⟩
 case round =>
  obtain⟨k,c,f,hk,rfl,rfl,m,p,hinv,g,i⟩:=hrel;have v:=hinv.len;by_cases J:k < b
  ·rcases x.loc with e | rfl
   ·subst e;simp at o;omega
   obtain⟨h,H⟩:∃ h:Nat,b=h+1+k:=⟨b - 1 - k,by omega⟩
   have n:=g.cell h (by omega);have K:=i.free D h (by omega);have y:=B.nth h;rw[hinv.low h (by omega)] at n
   have G:(b:Int) - 1 - k=h:=by omega
   have L:(h:Int) < b:=by omega
   obtain⟨z,A⟩:=y
   have M:Hid (ke lz d (h+1) f c):=by rw[show h+1=b - k from by omega];exact hinv
   have I:Hid (b=h+1+k):=H;clear H hinv x B;go_wp2_with (go_at_call 388;refine(div64 _ _ _ _ m p z A d1).mono ?_;rintro e w' ⟨q,r,rfl,q0,q1,r0,r1,u,E,rfl⟩);have hn:=I.out;refine⟨⟨k+1,r,f.set h q,by omega,by go_num,rfl,r0,r1,by rw[show b - (k+1)=h from by omega];exact M.out.step (by omega) q0 q1 u.out,?_,?_⟩,by simp[intOf];omega⟩
   ·exact(g.setCell (by omega) q).drewN E
   exact(i.setCell (by omega) (by omega) _).drewN E
  have t:k=b:=by omega
  subst t;go_wp2;go_ret;refine⟨c,f,rfl,m,p,by omega,hinv.words,g,i,?_⟩;have:=hinv.val;rwa [Nat.sub_self,List.drop_zero,List.drop_zero] at this
end
theorem dL.of {w w':World} {l:List Int} {ao:Option Addr} {n c b o:Nat} (hn:n=l.length) (h1:n<=c) (a:w.heap.size<=b) (d:At w' ao b o l) (e:dN w' b o n):dL w w' (.slice ao n c) l:=by
 subst hn;exact⟨ao,b,o,c,rfl,h1,a,d,e⟩
theorem nJ (ao:Option Addr) (n c b o:Nat) (l:List Int) (w:World) (s:l.length=n) (hc:n<=c) (hbig:n<=1099511627776) (q:At w ao b o l) :
  Calls Tryz.prog 371 #[.slice ao n c] w λe w'=>e=.returned (.slice (some ⟨w.heap.size,0,none⟩) (aE l) (aE l))/\Row w' w.heap.size (norm l)/\BW w w':=by
 have hn:=bO l;have t1:=bP ao n c l w s hc q.cells;have p:=q.sub (aE l);have i:=aK l;rw[show l.take (aE l)=norm l from rfl] at p;generalize aE l=N at *;generalize norm l=L at *;go_enter Tryz.func371,Tryz.ntmps371;go_wp2_with fail;refine t1.mono ?_
 rintro e t ⟨rfl,rfl⟩;clear t1
 go_wp2_with (first
  | (at_make;refine cY rfl _ _ rfl N _ _ rfl rfl ?_ (hL:=rfl) (hC:=rfl);intro v g d r;have j:=p.keep d)
  | (refine gK rfl (.tmp 10) (.tmp 11) rfl _ _ _ _ _ _ rfl rfl _ _ g (by simp) _ _ i (Nat.le_refl _) j ?_;intro u f m))
 go_ret;refine⟨rfl,?_,?_⟩
 ·simpa using f
 exact d.trans (m.below (Nat.le_refl _))
section
variable {lz lb lz1:List Int}{m c:Int}{k:Nat}
theorem BA(z x m c hi lo:Int)(f:0<=z/\z < 18446744073709551616)(hc:0<=c/\c < 18446744073709551616)(h1:0<=hi)(a:hi<=18446744073709551614)(b:0<=lo)(d:lo < 18446744073709551616)(e:hi * 18446744073709551616+lo=x * m)(hb:x * m<=340282366920938463426481119284349108225) :
  0<=hi+(lo+c) / 18446744073709551616/\hi+(lo+c) / 18446744073709551616<=18446744073709551615 /\
  0<=hi+(lo+c) / 18446744073709551616+(z+(lo+c) % 18446744073709551616) / 18446744073709551616 /\
  hi+(lo+c) / 18446744073709551616+(z+(lo+c) % 18446744073709551616) / 18446744073709551616<=18446744073709551615 /\
  (z+(lo+c) % 18446744073709551616) % 18446744073709551616+18446744073709551616 * (hi+(lo+c) / 18446744073709551616+(z+(lo+c) % 18446744073709551616) / 18446744073709551616)=z+x * m+c:=by
 omega
def di(lz lb:List Int)(m:Int)(k:Nat)(lz1:List Int)(c:Int):Prop :=
 lz1.length=lz.length/\Words lz1/\(∀ i,k<=i->nth lz1 i=nth lz i)/\val (lz1.take k)+18446744073709551616 ^ k * c=val (lz.take k)+val (lb.take k) * m
theorem di.step{a c':Int}(h:di lz lb m k lz1 c)(hk:k < lz.length)(b:0<=a)(d:a < 18446744073709551616)(e:a+18446744073709551616 * c'=nth lz k+nth lb k * m+c):di lz lb m (k+1) (lz1.set k a) c':=by
 obtain⟨f,g,l,n⟩:=h;refine⟨by simp[f],g.set k b d,λi hi=>?_,?_⟩
 ·rw[dB,if_neg (by omega)];exact l i (by omega)
 have hb:val (lb.take (k+1))=val (lb.take k)+18446744073709551616 ^ k * nth lb k:=by
  by_cases j:k < lb.length
  ·exact du j
  rw[List.take_of_length_le (by omega),List.take_of_length_le (by omega),fW];simp
 rw[du (by simp[f];omega),du hk,hb,List.take_set_of_le (Nat.le_refl _),dB,if_pos rfl,Int.pow_succ];have:18446744073709551616 ^ k * (a+18446744073709551616 * c')=18446744073709551616 ^ k * (nth lz k+nth lb k * m+c):=by rw[e]
 grind
theorem di.done{n:Nat}(hn:lz.length=n)(h:di lz lb m k lz1 c)(hc:c=0\/lz.length=k)(hk:lb.length<=k)(o:k<=n) :
  val lz1=(val lz+val lb * m) % 18446744073709551616 ^ n:=by
 obtain⟨g,d,q,b⟩:=h;rw[List.take_of_length_le (l:=lb) (by omega)] at b;have a:=dO d;have f:=aR d;rw[g,hn] at a;rcases hc with e | e
 ·subst e
  have j:lz1.drop k=lz.drop k:=jK (by simp[g]) λi hi=>by rw[dI,dI];exact q _ (by omega)
  have e1:=bN lz1 k;have e2:=bN lz k;rw[j] at e1;have:val lz+val lb * m=val lz1:=by rw[e1,e2];simp only[Int.mul_zero,Int.add_zero] at b;omega
  rw[this];exact(Int.emod_eq_of_lt f a).symm
 have p:k=n:=by omega
 subst p;rw[List.take_of_length_le (l:=lz1) (by omega),List.take_of_length_le (l:=lz) (by omega)] at b;rw[<- b,Int.add_mul_emod_self_left];exact(Int.emod_eq_of_lt f a).symm
theorem ey(I:Option Addr)(n o i cz:Nat)(Y:Option Addr)(bb ob u cb:Nat)(m:Int)(lz lb:List Int)(w:World)(A:lz.length=i)(Q:lb.length=u)(p:i≤cz)(U:u≤cb)(E:0≤m)(W:m < 18446744073709551616)(F:Words lz)(S:Words lb)(D:At w I n o lz)(s:dN w n o i)(hb:At w Y bb ob lb)(v:lb=[]∨bb≠n)(hle:u≤i:=by omega)(hbig:i≤2199023255552:=by omega) :
    Calls Tryz.prog 273 #[.slice I i cz, .slice Y u cb, .int .u64 m] w λe w' => e = .returned (.tuple #[]) ∧
      ∃ lz',lz'.length=i∧Words lz'∧At w' I n o lz'∧Wr n o i w w'∧val lz'=(val lz+val lb * m) % 18446744073709551616 ^ i:=by
  go_enter Tryz.func273,Tryz.ntmps273;go_wp2;go_loopw [6,14] (λtc y wr=>∃ (k:Nat) (c:Int) (g:List Int),k≤u∧y=.int .i64 k∧tc=.int .u64 c∧0≤c∧c < 18446744073709551616∧di lz lb m k g c∧At wr I n o g∧Wr n o i w wr) (λ_ y _=>u - (intOf y).toNat)
  case atStart=>exact⟨0,0,lz,Nat.zero_le _,rfl,rfl,by decide,by decide,⟨rfl,F,λ_ _=>rfl,by simp[val]⟩,D,Wr.refl _ _ _ _⟩
  case round =>
    obtain⟨k,c,g,hk,rfl,rfl,t,B,hinv,f,b⟩:= hrel;have x:=hinv.1;by_cases hlt:k < u
    · rcases hb.loc with e | rfl
      · subst e;simp at Q;omega
      rcases D.loc with e | rfl
      · subst e;simp at A;omega
      have G:=hb.wr b v;have U:=G.cell k (by omega);have p:=f.cell k (by omega);have V:=b.free s k (by omega);have hx:=S.nth k;have z:=F.nth k;rw[hinv.2.2.1 k (Nat.le_refl _)] at p;obtain⟨N,X⟩:= hx;obtain⟨q,H⟩:= z
      have C:Hid (di lz lb m k g c):=hinv
      have L:Hid (At wr (some ⟨n,o,none⟩) n o g):=f
      have O:Hid (Wr n o i w wr):=b;clear hinv f b G D hb s F S v
      go_wp2_with (first
        | (go_at_call 325;refine(mj _ _ N X E W _).mono ?_;rintro e w' ⟨hi,lo,rfl,h1,h2,Z,h4,h5,rfl⟩)
        | simp only[rZ _ _ Z t]
        | simp only[Gw _ _ q])
      have P:nth lb k * m≤340282366920938463426481119284349108225:=by
        have:=Int.mul_le_mul (show nth lb k≤18446744073709551615 by omega) (show m≤18446744073709551615 by omega) E (by decide);simpa using this
      obtain⟨s1,s2,s3,s4,J⟩:= BA (nth lz k) (nth lb k) m c hi lo ⟨q,H⟩ ⟨t,B⟩ h1 h2 Z h4 h5 P;rw[Int.add_emod_emod] at J;rw[IntWalk.u64_in _ ⟨s3,s4⟩];refine⟨⟨k+1,_,_,by omega,by go_num,rfl,s3,by omega,C.out.step (by omega) (Int.emod_nonneg _ (by decide)) (Int.emod_lt_of_pos _ (by decide)) J,L.out.setCell (by omega) _,O.out.setCell (by omega) (by omega) _⟩,by simp[intOf];omega⟩
    · have K : k = u := by omega
      subst K
      have C:Hid (di lz lb m k g c):=hinv;clear hinv;go_wp2;go_loopw [6,11] (λtc y wr=>∃ (j:Nat) (c:Int) (g:List Int),k≤j∧j≤i∧y=.int .i64 j∧tc=.int .u64 c∧0≤c∧c < 18446744073709551616∧di lz lb m j g c∧At wr I n o g∧Wr n o i w wr) (λ_ y _=>i - (intOf y).toNat)
      case atStart=>exact⟨k,c,g,Nat.le_refl _,by omega,rfl,rfl,t,B,C.out,f,b⟩
      case round =>
        clear f b C x t B;obtain⟨j,d,r,hkj,hj,rfl,rfl,T,hd1,hinv,f,b⟩:= hrel;have R:=hinv.1;by_cases hlt2:j < i
        · by_cases hd:d=0
          · subst hd
            go_wp2;go_end0;refine⟨rfl,r,by omega,hinv.2.1,f,b,?_⟩;exact di.done (by omega) hinv (.inl rfl) (by omega) (by omega)
          · rcases D.loc with e | rfl
            · subst e;simp at A;omega
            have p:=f.cell j (by omega);have V:=b.free s j (by omega);have z:=F.nth j;rw[hinv.2.2.1 j (Nat.le_refl _)] at p;obtain⟨q,H⟩:= z
            have hdb:(d != 0)=true:=by rw[bne_iff_ne];exact hd
            have C:Hid (di lz lb m j r d):=hinv
            have L:Hid (At wr (some ⟨n,o,none⟩) n o r):=f
            have O:Hid (Wr n o i w wr):=b;clear hinv f b D hb s F S v;go_wp2_with (simp only[rZ _ _ q T])
            have J:(nth lz j+d) % 18446744073709551616+18446744073709551616 * ((nth lz j+d) / 18446744073709551616)=nth lz j+nth lb j * m+d:=by
              rw[fW (l:=lb)];omega
            refine⟨⟨j+1,_,_,by omega,by omega,by go_num,rfl,by omega,by omega,C.out.step (by omega) (Int.emod_nonneg _ (by decide)) (Int.emod_lt_of_pos _ (by decide)) J,L.out.setCell (by omega) _,O.out.setCell (by omega) (by omega) _⟩,by simp[intOf];omega⟩
        · have M : j = i := by omega
          subst M;go_wp2;go_end0;refine⟨rfl,r,by omega,hinv.2.1,f,b,?_⟩;exact di.done (by omega) hinv (.inr A) (by omega) (by omega)
end
section
variable {l:List Int}
theorem pS{n:Int}(h:IsN l n):0<=n/\n < 18446744073709551616 ^ l.length:=by
 rw[<- h.2.2];exact⟨aR h.1,dO h.1⟩
theorem pow_pos(k:Nat):(0:Int) < 18446744073709551616 ^ k:=Int.pow_pos (by decide)
theorem wj{L L' lz:List Int}{x y:Int}(hL:IsN L x)(a:IsN L' y)(hw:Words lz)(hv:val lz=(val (L ++ [0])+val L' * 1) % 18446744073709551616 ^ (L.length+1))(hle:L'.length<=L.length:=by omega):IsN (norm lz) (x+y):=by
 have c:=pS hL;have b:=pS a;have f:=kh hle;have d:=pow_pos L.length
 have e:val (L ++ [0])+val L' * 1=x+y:=by rw[dY,hL.2.2,a.2.2];simp[val]
 rw[e,Int.emod_eq_of_lt (by omega) (by rw[Int.pow_succ];omega)] at hv;rw[<- hv];exact cU hw
theorem eE(n:Nat):Words (List.replicate n 0):=λx hx=>by rw[List.eq_of_mem_replicate hx];decide
theorem Fl(ao:Option Addr)(n c b o:Nat)(ao':Option Addr)(n' c' b' o':Nat)(l u:List Int)(w:World)(hl:l.length=n)(hl':u.length=n')(hc:n<=c)(aa:n'<=c')(hbig:n<=1099511627776)(hbig':n'<=1099511627776)(wl:Words l)(X:Words u)(W:At w ao b o l)(P:At w ao' b' o' u) :
  Calls Tryz.prog 229 #[.slice ao n c,.slice ao' n' c'] w λe w'=>∃ v r,e=.returned v/\dL w w' v r/\IsN r (val l+val u)/\r.length<=n+n' + 1/\BW w w':=by
 have hn:=bO l
 have hn':=bO u;have t1:=bP ao n c l w hl hc W.cells;have t2:=bP ao' n' c' u w hl' aa P.cells;have U:=W.sub (aE l)
 have D:=P.sub (aE u);have F:=aK l
 have t:=aK u;have T:=cU wl
 have E:=cU X;rw[show l.take (aE l)=norm l from rfl] at U;rw[show u.take (aE u)=norm u from rfl] at D;generalize aE l=N at *;generalize aE u=M at *;generalize norm l=L at *;generalize norm u=S at *;clear W P;go_enter Tryz.func229,Tryz.ntmps229;go_wp2_with fail;refine t1.mono ?_
 rintro e w1 ⟨rfl,rfl⟩;go_wp2_with fail;refine t2.mono ?_
 rintro e G ⟨rfl,rfl⟩;clear t1 t2;by_cases hlt:N < M
 ·have x:L=[]\/b≠G.heap.size:=by
   rcases U.lt with e | e
   ·exact .inl e
   exact .inr (by omega)
  go_wp2_with (first
   | (at_make;refine cY rfl _ _ rfl (M+1) _ _ rfl rfl ?_;intro w3 s d V;have y:=D.keep d;have z:=U.keep d)
   | (refine gK rfl (.tmp 23) (.tmp 24) rfl _ _ _ _ _ _ rfl rfl _ _ s (by simp) _ _ t (by omega) y ?_;intro Q m f))
  have q:Row Q G.heap.size (S ++ [0]):=by
   have:=m;rw[List.drop_replicate,show M+1 - M=1 from by omega] at this;simpa using this
  have C:=z.wr f x;refine(ey _ G.heap.size 0 _ _ _ b o _ _ 1 (S ++ [0]) L Q (by simp[t]) F (Nat.le_refl _) (Nat.le_refl _) (by decide) (by decide) (E.1.append (eE 1)) T.1 q.at (q.free _ _) C x).mono ?_
  rintro e w5 ⟨rfl,p,H,J,g,j,B⟩
  have Y:IsN (norm p) (_+_):=wj E T J (by rw[B,t]);have O:=j.free (q.free 0 (M+1));have ab:=bO p;have I:=aK p;have A:=g.sub (aE p);have Z:=(d.trans (f.below (Nat.le_refl _))).trans (j.below (Nat.le_refl _));rw[show p.take (aE p)=norm p from rfl] at A;have t3:=bP (some ⟨G.heap.size,0,none⟩) (M+1) (M+1) p w5 H (Nat.le_refl _) g.cells;clear q C z y s m f j d g B;generalize aE p=K at *;generalize norm p=R at *;go_wp2_with fail;refine t3.mono ?_
  rintro e w6 ⟨rfl,rfl⟩;go_wp2;go_ret;exact⟨_,R,rfl,dL.of I.symm (Nat.le_refl _) (Nat.le_refl _) A (λi hi=>O i (by omega)),by rw[Int.add_comm];exact Y,by omega,Z⟩
 have x:S=[]\/b'≠G.heap.size:=by
  rcases D.lt with e | e
  ·exact .inl e
  exact .inr (by omega)
 go_wp2_with (first
  | (at_make;refine cY rfl _ _ rfl (N+1) _ _ rfl rfl ?_;intro w3 s d V;have y:=U.keep d;have z:=D.keep d)
  | (refine gK rfl (.tmp 23) (.tmp 24) rfl _ _ _ _ _ _ rfl rfl _ _ s (by simp) _ _ F (by omega) y ?_;intro Q m f))
 have q:Row Q G.heap.size (L ++ [0]):=by
  have:=m;rw[List.drop_replicate,show N+1 - N=1 from by omega] at this;simpa using this
 have C:=z.wr f x;refine(ey _ G.heap.size 0 _ _ _ b' o' _ _ 1 (L ++ [0]) S Q (by simp[F]) t (Nat.le_refl _) (Nat.le_refl _) (by decide) (by decide) (T.1.append (eE 1)) E.1 q.at (q.free _ _) C x).mono ?_
 rintro e w5 ⟨rfl,p,H,J,g,j,B⟩
 have Y:IsN (norm p) (_+_):=wj T E J (by rw[B,F]);have O:=j.free (q.free 0 (N+1));have ab:=bO p;have I:=aK p;have A:=g.sub (aE p);have Z:=(d.trans (f.below (Nat.le_refl _))).trans (j.below (Nat.le_refl _));rw[show p.take (aE p)=norm p from rfl] at A;have t3:=bP (some ⟨G.heap.size,0,none⟩) (N+1) (N+1) p w5 H (Nat.le_refl _) g.cells;clear q C z y s m f j d g B;generalize aE p=K at *;generalize norm p=R at *;go_wp2_with fail;refine t3.mono ?_
 rintro e w6 ⟨rfl,rfl⟩;go_wp2;go_ret;exact⟨_,R,rfl,dL.of I.symm (Nat.le_refl _) (Nat.le_refl _) A (λi hi=>O i (by omega)),Y,by omega,Z⟩
end
theorem yZ (x y:Int):0<=bor x y/\bor x y<=1:=by unfold bor;split<;>decide
theorem xf (x y:Int) (hx:0<=x/\x < 18446744073709551616) (hy:0<=y/\y < 18446744073709551616):(x - y) % 18446744073709551616=x - y+18446744073709551616 * bor x y:=by
 unfold bor;split<;>omega
theorem DY (x y:Int) (hx:0<=x) (a:x < 18446744073709551616) (w:World):(callFunc 393 #[.int .u64 x,.int .u64 (y % 18446744073709551616),.int .u64 0]).run Tryz.prog w =
  .ok (.value (.tuple #[.int .u64 ((x - y % 18446744073709551616) % 18446744073709551616),.int .u64 (bor x (y % 18446744073709551616))])) w :=
 GO x _ hx a (Int.emod_nonneg _ (by decide)) (Int.emod_lt_of_pos _ (by decide)) w
theorem xB (z x m c hi lo:Int) (a:0<=z/\z < 18446744073709551616) (hc:0<=c/\c < 18446744073709551616) (h1:0<=hi) (b:hi<=18446744073709551614) (d:0<=lo) (e:lo < 18446744073709551616) (f:hi * 18446744073709551616+lo=x * m)
  (hb:x * m<=340282366920938463426481119284349108225) :
  0<=hi+(lo+c) / 18446744073709551616/\hi+(lo+c) / 18446744073709551616<=18446744073709551615 /\
  0<=hi+(lo+c) / 18446744073709551616+bor z ((lo+c) % 18446744073709551616) /\
  hi+(lo+c) / 18446744073709551616+bor z ((lo+c) % 18446744073709551616)<=18446744073709551615 /\
  (z - (lo+c) % 18446744073709551616) % 18446744073709551616+18446744073709551616 * (-(hi+(lo+c) / 18446744073709551616+bor z ((lo+c) % 18446744073709551616)))=z+x * -m + -c:=by
 rw[xf z _ a ⟨by omega,by omega⟩,show x * -m=-(x * m) from Int.mul_neg x m];have:=yZ z ((lo+c) % 18446744073709551616);unfold bor at *;split<;>omega
theorem di.ga {lz lb lz1:List Int} {m c:Int} {k n:Nat} (hn:lz.length=n) (h:di lz lb m k lz1 c) (hc:c=0\/lz.length=k) (hk:lb.length<=k) (d:k<=n) :
  val lz1+18446744073709551616 ^ n * c=val lz+val lb * m:=by
 obtain⟨g,o,j,a⟩:=h;rw[List.take_of_length_le (l:=lb) (by omega)] at a;rcases hc with e | e
 ·subst e
  have b:lz1.drop k=lz.drop k:=jK (by simp[g]) λi hi=>by rw[dI,dI];exact j _ (by omega)
  have e1:=bN lz1 k;have e2:=bN lz k;rw[b] at e1;simp only[Int.mul_zero,Int.add_zero] at a ⊢;rw[e1,e2];omega
 have f:k=n:=by omega
 subst f;rw[List.take_of_length_le (l:=lz1) (by omega),List.take_of_length_le (l:=lz) (by omega)] at a;exact a
theorem iZ (E:Option Addr) (o p f cz:Nat) (ab:Option Addr) (bb ob s cb:Nat) (m:Int) (lz lb:List Int) (w:World) (z:lz.length=f) (W:lb.length=s) (hle:s≤f) (t:f≤cz) (hcb:s≤cb) (K:0≤m) (hm1:m < 18446744073709551616) (L:Words lz) (Z:Words lb) (H:At w E o p lz) (u:dN w o p f) (hb:At w ab bb ob lb) (A:lb=[]∨bb≠o) (hbig:f≤2199023255552:=by omega) :
    Calls Tryz.prog 381 #[.slice E f cz, .slice ab s cb, .int .u64 m] w λe w' => ∃ ga : Int, e = .returned (.int .u64 ga) ∧ 0 ≤ ga ∧ ga < 18446744073709551616 ∧
      ∃ lz',lz'.length=f∧Words lz'∧At w' E o p lz'∧Wr o p f w w'∧val lz'=val lz - val lb * m+18446744073709551616 ^ f * ga:=by
  have fin:∀ (j:Nat) (d:Int) (n:List Int) (wr:World),s≤j→j≤f→0≤d→d < 18446744073709551616→di lz lb (-m) j n (-d)→At wr E o p n→Wr o p f w wr→(d=0∨f=j) →
      ∃ ga:Int,Ending.returned (.int .u64 d)=.returned (.int .u64 ga)∧0≤ga∧ga < 18446744073709551616 ∧
      ∃ lz',lz'.length=f∧Words lz'∧At wr E o p lz'∧Wr o p f w wr∧val lz'=val lz - val lb * m+18446744073709551616 ^ f * ga:=by
    intro j d n wr h1 Y O h4 J h6 h7 h8;refine⟨d,rfl,O,h4,n,by rw[J.1,z],J.2.1,h6,h7,?_⟩
    have := J.ga z (by rcases h8 with e | e
                       · left;omega
                       · right;omega) (by omega) Y
    rw[Int.mul_neg,Int.mul_neg] at this;omega
  have N:=(show Hid _ from fin);clear fin;go_enter Tryz.func381,Tryz.ntmps381;go_wp2;go_loopw [7,15] (λtc C wr=>∃ (k:Nat) (c:Int) (i:List Int),k≤s∧C=.int .i64 k∧tc=.int .u64 c∧0≤c∧c < 18446744073709551616∧di lz lb (-m) k i (-c)∧At wr E o p i∧Wr o p f w wr) (λ_ C _=>s - (intOf C).toNat)
  case atStart=>exact⟨0,0,lz,Nat.zero_le _,rfl,rfl,by decide,by decide,⟨rfl,L,λ_ _=>rfl,by simp[val]⟩,H,Wr.refl _ _ _ _⟩
  case round =>
    obtain⟨k,c,i,hk,rfl,rfl,v,F,hinv,g,b⟩:= hrel;have B:=hinv.1;by_cases hlt:k < s
    · rcases hb.loc with e | rfl
      · subst e;simp at W;omega
      rcases H.loc with e | rfl
      · subst e;simp at z;omega
      have M:=hb.wr b A;have hcb:=M.cell k (by omega);have t:=g.cell k (by omega);have hfr:=b.free u k (by omega);have hx:=Z.nth k;have D:=L.nth k;rw[hinv.2.2.1 k (Nat.le_refl _)] at t;obtain⟨T,hx1⟩:= hx;obtain⟨q,r⟩:= D
      have G:Hid (di lz lb (-m) k i (-c)):=hinv
      have R:Hid (At wr (some ⟨o,p,none⟩) o p i):=g
      have U:Hid (Wr o p f w wr):=b;clear hinv g b M H hb u L Z A
      go_wp2_with (first
        | (go_at_call 325;refine(mj _ _ T hx1 K hm1 _).mono ?_;rintro e w' ⟨hi,lo,rfl,h1,Y,O,h4,J,rfl⟩)
        | simp only[rZ _ _ O v]
        | simp only[DY _ _ q r])
      have V:nth lb k * m≤340282366920938463426481119284349108225:=by
        have:=Int.mul_le_mul (show nth lb k≤18446744073709551615 by omega) (show m≤18446744073709551615 by omega) K (by decide);simpa using this
      obtain⟨s1,s2,s3,s4,P⟩:= xB (nth lz k) (nth lb k) m c hi lo ⟨q,r⟩ ⟨v,F⟩ h1 Y O h4 J V;rw[Int.sub_emod_emod] at P;rw[IntWalk.u64_in _ ⟨s3,s4⟩];refine⟨⟨k+1,_,_,by omega,by go_num,rfl,s3,by omega,G.out.step (by omega) (Int.emod_nonneg _ (by decide)) (Int.emod_lt_of_pos _ (by decide)) P,R.out.setCell (by omega) _,U.out.setCell (by omega) (by omega) _⟩,by simp[intOf];omega⟩
    · have Q : k = s := by omega
      subst Q
      have G:Hid (di lz lb (-m) k i (-c)):=hinv;clear hinv;go_wp2;go_loopw [7,12] (λtc C wr=>∃ (j:Nat) (c:Int) (i:List Int),k≤j∧j≤f∧C=.int .i64 j∧tc=.int .u64 c∧0≤c∧c < 18446744073709551616∧di lz lb (-m) j i (-c)∧At wr E o p i∧Wr o p f w wr) (λ_ C _=>f - (intOf C).toNat)
      case atStart=>exact⟨k,c,i,Nat.le_refl _,by omega,rfl,rfl,v,F,G.out,g,b⟩
      case round =>
        clear g b G B v F;obtain⟨j,d,n,I,hj,rfl,rfl,y,x,hinv,g,b⟩:= hrel;have X:=hinv.1;by_cases hlt2:j < f
        · by_cases hd:d=0
          · subst hd
            go_wp2;go_ret;exact N.out j 0 n _ I hj y x hinv g b (.inl rfl)
          · rcases H.loc with e | rfl
            · subst e;simp at z;omega
            have t:=g.cell j (by omega);have hfr:=b.free u j (by omega);have D:=L.nth j;rw[hinv.2.2.1 j (Nat.le_refl _)] at t;obtain⟨q,r⟩:= D
            have hdb:(d != 0)=true:=by rw[bne_iff_ne];exact hd
            have G:Hid (di lz lb (-m) j n (-d)):=hinv
            have R:Hid (At wr (some ⟨o,p,none⟩) o p n):=g
            have U:Hid (Wr o p f w wr):=b;clear hinv g b H hb u L Z A;go_wp2_with (simp only[GO _ _ q r y x]);have hbb:=yZ (nth lz j) d
            have P:(nth lz j - d) % 18446744073709551616+18446744073709551616 * -bor (nth lz j) d=nth lz j+nth lb j * -m + -d:=by
              rw[fW (l:=lb),xf _ _ ⟨q,r⟩ ⟨y,x⟩];omega
            refine⟨⟨j+1,_,_,by omega,by omega,by go_num,rfl,by omega,by omega,G.out.step (by omega) (Int.emod_nonneg _ (by decide)) (Int.emod_lt_of_pos _ (by decide)) P,R.out.setCell (by omega) _,U.out.setCell (by omega) (by omega) _⟩,by simp[intOf];omega⟩
        · have S : j = f := by omega
          subst S;go_wp2;go_ret;exact N.out j d n _ I hj y x hinv g b (.inr rfl)
theorem Gf {L L' lz:List Int} {x y ga:Int} (hL:IsN L x) (a:IsN L' y) (hle:y<=x) (hw:Words lz) (d:lz.length=L.length) (h0:0<=ga)
  (hv:val lz=val L - val L' * 1+18446744073709551616 ^ L.length * ga):IsN (norm lz) (x - y):=by
 have i:=pS hL;have f:=pS a;have e:=dO hw;have g:=aR hw;have b:=pow_pos L.length;rw[hL.2.2,a.2.2] at hv;rw[d] at e
 have c:ga=0:=by
  by_cases h:0 < ga
  ·have:18446744073709551616 ^ L.length * 1<=18446744073709551616 ^ L.length * ga:=Int.mul_le_mul_of_nonneg_left (by omega) (Int.le_of_lt b);omega
  omega
 subst c;have:x - y=val lz:=by rw[hv];simp
 rw[this];exact cU hw
theorem sub_lt (ao:Option Addr) (n c b o:Nat) (ao':Option Addr) (n' c' b' o':Nat) (l f:List Int) (w:World) (r:l.length=n) (p:f.length=n') (hc:n<=c) (m:n'<=c') (hbig:n<=1099511627776) (d:n'<=1099511627776)
  (wl:Words l) (g:Words f) (s:At w ao b o l) (j:At w ao' b' o' f) (i:val l < val f) :
  Calls Tryz.prog 361 #[.slice ao n c,.slice ao' n' c'] w λe w'=>e=.returned (.tuple #[.slice none 0 0,.int .i64 10])/\BW w w':=by
 have t1:=jQ ao n c b o ao' n' c' b' o' l f w r p hc m hbig d wl g s j;rw[ik i] at t1;go_enter Tryz.func361,Tryz.ntmps361;go_wp2_with fail;refine t1.mono ?_
 rintro e t ⟨rfl,q⟩;go_wp2_with fail;go_ret2;exact⟨rfl,q⟩
theorem sub_ge (ao:Option Addr) (n c b o:Nat) (ao':Option Addr) (n' c' b' o':Nat) (l d:List Int) (w:World) (X:l.length=n) (I:d.length=n') (hc:n<=c) (G:n'<=c') (hbig:n<=1099511627776) (y:n'<=1099511627776)
  (wl:Words l) (u:Words d) (S:At w ao b o l) (A:At w ao' b' o' d) (T:val d<=val l) :
  Calls Tryz.prog 361 #[.slice ao n c,.slice ao' n' c'] w λe w'=>∃ v r,e=.returned (.tuple #[v,.int .i64 0])/\dL w w' v r/\IsN r (val l - val d)/\r.length<=n/\BW w w':=by
 have t1:=jQ ao n c b o ao' n' c' b' o' l d w X I hc G hbig y wl u S A
 have hs0:0<=sgn (val l) (val d):=by unfold sgn;split<;>(try split)<;>omega
 have hle:aE d<=aE l:=by
  rcases Nat.lt_or_ge (aE l) (aE d) with h | h
  ·have:=dz wl u h;omega
  exact h
 generalize hsg:sgn (val l) (val d)=sg at *;clear hsg;go_enter Tryz.func361,Tryz.ntmps361;go_wp2_with fail;refine t1.mono ?_
 rintro e J ⟨rfl,q⟩;have B:=S.keep q
 have j:=A.keep q;clear t1;go_wp2_with fail;refine(nJ ao n c b o l J X hc hbig B).mono ?_
 rintro e w2 ⟨rfl,f,x⟩
 have m:=j.keep x
 have t:=m.sub (aE d)
 have M:norm d=[]\/b'≠J.heap.size:=by
  rcases(j.sub (aE d)).lt with e | e
  ·exact .inl e
  exact .inr (by omega)
 rw[show d.take (aE d)=norm d from rfl] at t;have t2:=bP ao' n' c' d w2 I G m.cells;have hn:=bO l
 have hn':=bO d;have H:=aK l
 have F:=aK d;have Y:=cU wl
 have C:=cU u;clear S A B j m;generalize aE l=N at *;generalize aE d=N' at *;generalize norm l=L at *;generalize norm d=Z at *;go_wp2_with fail;refine t2.mono ?_
 rintro e w3 ⟨rfl,rfl⟩;clear t2;go_wp2_with fail;refine(iZ _ J.heap.size 0 _ _ _ b' o' _ _ 1 L Z w3 H F hle (Nat.le_refl _) (Nat.le_refl _) (by decide) (by decide) Y.1 C.1 f.at (f.free _ _) t M).mono ?_
 rintro e W ⟨ga,rfl,O,aa,s,P,U,g,z,E⟩
 have HF:IsN (norm s) (_ - _):=Gf Y C T U (by omega) O (by rw[E,H]);have V:=z.free (f.free 0 N);have hz1:=bO s;have Q:=aK s;have D:=g.sub (aE s);have p:=q.size
 have HB:BW w W:=(q.trans (x.mono p)).trans (z.below p);rw[show s.take (aE s)=norm s from rfl] at D;have t3:=bP (some ⟨J.heap.size,0,none⟩) N N s W P (Nat.le_refl _) g.cells;clear t f z g E q x;generalize aE s=K at *;generalize norm s=R at *;go_wp2_with fail;refine t3.mono ?_
 rintro e w5 ⟨rfl,rfl⟩;go_wp2;go_ret2;exact⟨_,R,rfl,dL.of Q.symm (Nat.le_refl _) p D (λi hi=>V i (by omega)),HF,by omega,HB⟩
section
variable {w w1:World}{v:Value}{l:List Int}
theorem Row.built(w:World)(l:List Int):Row (w.alloc (.cells (l.map (Value.int .u64)).toArray 22)) w.heap.size l:=by
 show (w.heap.push _)[w.heap.size]?=_
 rw[Array.getElem?_push_size]
theorem Row.built1(w:World)(x:Int):Row (w.alloc (.cells #[.int .u64 x] 22)) w.heap.size [x]:=Row.built w [x]
theorem aa(w:World)(o:Obj):BW w (w.alloc o):=(Below.refl _ _).alloc (Nat.le_refl _) _
theorem np(x:Int)(w:World)(h0:0<=x)(h1:x < 18446744073709551616) :
  Calls Tryz.prog 224 #[.int .u64 x] w λe w'=>∃ v r,e=.returned v/\dL w w' v r/\IsN r x/\r.length<=1/\BW w w':=by
 have c:=Row.built1 w x;have hb:=aa w (.cells #[.int .u64 x] 22)
 have hw:Words [x]:=Words.cons h0 h1 Words.nil;have t1:=bP (some ⟨w.heap.size,0,none⟩) 1 1 [x] (w.alloc (.cells #[.int .u64 x] 22)) rfl (by decide) c.at.cells (hb:=by decide);have d:=bO [x];have f:=aK [x];have b:=c.at.sub (aE [x])
 have j:IsN (norm [x]) x:=by have:=cU hw;rwa [eG] at this
 have g:=c.free 0 1;rw[show [x].take (aE [x])=norm [x] from rfl] at b;rw[List.length_singleton] at d;generalize aE [x]=K at *;generalize norm [x]=R at *;clear c;go_enter Tryz.func224,Tryz.ntmps224;go_wp2_with fail;refine t1.mono ?_
 rintro e l ⟨rfl,rfl⟩;go_wp2;go_ret;exact⟨_,R,rfl,dL.of f.symm (Nat.le_refl _) (Nat.le_refl _) b (λi hi=>g i (by omega)),j,by omega,hb⟩
theorem div_zero(v:Value)(ao':Option Addr)(n' c' b' o':Nat)(b:List Int)(w:World)(f:b.length=n')(d:n'<=c')(g:n'<=1099511627776)(c:Words b)(i:At w ao' b' o' b)(h0:val b=0) :
  Calls Tryz.prog 355 #[v,.slice ao' n' c'] w λe w'=>e=.returned (.tuple #[.slice none 0 0,.slice none 0 0,.int .i64 11])/\w'=w:=by
 have t1:=bP ao' n' c' b w f d i.cells;rw[(cL c).2 h0] at t1;go_enter Tryz.func355,Tryz.ntmps355;go_wp2_with fail;refine t1.mono ?_
 rintro e j ⟨rfl,rfl⟩;go_wp2_with fail;go_ret3;exact⟨rfl,rfl⟩
def jH(w w':World)(e:Ending)(x y:Int)(n n':Nat):Prop :=
 ∃ v u r s,e=.returned (.tuple #[v,u,.int .i64 0])/\dL w w' v r/\dL w w' u s/\IsN r (x / y)/\IsN s (x % y)/\r.length<=n/\s.length<=n+n'/\BW w w'
theorem dL.nil(w w':World):dL w w' (.slice none 0 0) []:=⟨none,w.heap.size,0,0,rfl,Nat.le_refl _,Nat.le_refl _,⟨.inl rfl,λi hi=>by simp at hi⟩,λi hi=>by simp at hi⟩
theorem jP:IsN [] 0:=⟨Words.nil,rfl,rfl⟩
theorem dL.later{f:World}(h:dL w w1 v l)(hb:BW w1 f):dL w f v l:=by
 obtain⟨j,b,o,c,e,m,g,d,k⟩:=h;refine⟨j,b,o,c,e,m,g,d.keep hb,λi hi=>?_⟩;have a:=aC (d.cell i hi);rw[hb.frozen (p:=⟨b,o+i,none⟩) a];exact k i hi
theorem dL.mono{w0:World}(h:dL w w1 v l)(hb:w0.heap.size<=w.heap.size):dL w0 w1 v l:=by
 obtain⟨ao,b,o,c,e,h1,h2,h3,h4⟩:=h;exact⟨ao,b,o,c,e,h1,by omega,h3,h4⟩
theorem div_lt(ao:Option Addr)(n c b o:Nat)(ao':Option Addr)(n' c' b' o':Nat)(l d:List Int)(w:World)(x:l.length=n)(t:d.length=n')(hc:n<=c)(r:n'<=c')(hbig:n<=1099511627776)(u:n'<=1099511627776)(wl:Words l)(p:Words d)(y:At w ao b o l)(q:At w ao' b' o' d)(g:val l < val d) :
  Calls Tryz.prog 355 #[.slice ao n c,.slice ao' n' c'] w λe w'=>jH w w' e (val l) (val d) n n':=by
 have z:=aR wl;have hn:=bO l
 have B:=bO d
 have A:aE d≠0:=λe=>by have:=(cL p).1 e;omega
 have t1:=bP ao' n' c' d w t r q.cells
 have j:=q.sub (aE d);rw[show d.take (aE d)=norm d from rfl] at j;have t2:=jQ ao n c b o ao' (aE d) (aE d) b' o' l (norm d) w x (aK d) hc (Nat.le_refl _) hbig (by omega) wl p.norm y j;rw[dn,ik g] at t2;have E:=cU wl;have s:=aK l
 have C:((aE d:Int) == 0)=false:=beq_eq_false_iff_ne.2 (by omega);go_enter Tryz.func355,Tryz.ntmps355;go_wp2_with fail;refine t1.mono ?_
 rintro e F ⟨rfl,rfl⟩;go_wp2_with fail;refine t2.mono ?_
 rintro e D ⟨rfl,i⟩;go_wp2_with fail;refine(nJ ao n c b o l D x hc hbig (y.keep i)).mono ?_
 rintro e G ⟨rfl,f,v⟩;clear t1 t2;go_wp2;go_ret3;have m:=i.size;exact⟨_,_,[],norm l,rfl,dL.nil _ _,dL.of s.symm (Nat.le_refl _) m f.at (f.free _ _),by rw[Int.ediv_eq_zero_of_lt z g];exact jP,by rw[Int.emod_eq_of_lt z g];exact E,by simp,by omega,i.trans (v.mono m)⟩
theorem div_one(ao:Option Addr)(n c b o:Nat)(ao':Option Addr)(n' c' b' o':Nat)(l f:List Int)(w:World)(hl:l.length=n)(ae:f.length=n')(hc:n<=c)(V:n'<=c')(hbig:n<=1099511627776)(X:n'<=1099511627776)(wl:Words l)(H:Words f)(ha:At w ao b o l)(M:At w ao' b' o' f)(ab:val f<=val l)(h1:aE f=1) :
  Calls Tryz.prog 355 #[.slice ao n c,.slice ao' n' c'] w λe w'=>jH w w' e (val l) (val f) n n':=by
 have h0:=aR wl;have hn:=bO l
 have hn':=bO f;have t1:=bP ao' n' c' f w ae V M.cells
 have m:=M.sub (aE f);rw[show f.take (aE f)=norm f from rfl] at m;have t2:=jQ ao n c b o ao' (aE f) (aE f) b' o' l (norm f) w hl (aK f) hc (Nat.le_refl _) hbig (by omega) wl H.norm ha m;rw[dn] at t2
 have U:0<=sgn (val l) (val f):=by unfold sgn;split<;>(try split)<;>omega
 have y:=aK f
 have A:=cU H;rw[h1] at t1 t2 y;generalize hN':norm f=L' at *;obtain⟨d,rfl⟩:=List.length_eq_one_iff.1 y
 have hd:val f=d:=by have:=A.2.2;rw[eG] at this;exact this.symm
 have Q:=A.1 d (by simp)
 have F:0 < d:=by
  have h2:=A.2.1;by_cases c:d=0
  ·subst c;simp[aE] at h2
  omega
 rw[hd] at ab t2 ⊢;rw[hd] at U;generalize sgn (val l) d=sg at *;rcases m.loc with e | rfl
 ·simp at e
 go_enter Tryz.func355,Tryz.ntmps355;go_wp2_with fail;refine t1.mono ?_
 rintro e w1 ⟨rfl,rfl⟩;go_wp2_with fail;refine t2.mono ?_
 rintro e O ⟨rfl,j⟩;go_wp2_with fail;refine(nJ ao n c b o l O hl hc hbig (ha.keep j)).mono ?_
 rintro e w3 ⟨rfl,g,t⟩;have z:=j.size;have hsz3:=t.size;have E:=((m.keep j).keep t).cell 0 (by simp);rw[dJ] at E;rw[Nat.add_zero] at E;have T:=wl.norm;have ac:=dn l;have ad:=aK l;clear t1 t2;generalize aE l=N at *;generalize norm l=L at *;go_wp2_with fail;refine(l6 (some ⟨O.heap.size,0,none⟩) O.heap.size 0 N N d L w3 ad (by omega) (Nat.le_refl _) F Q.2 T g.at (g.free _ _)).mono ?_
 rintro e w4 ⟨left,p,rfl,I,af,P,W,x,v,G⟩;have Y:=v.free (g.free 0 N);have hz1:=bO p;have Z:=aK p;have C:=x.sub (aE p);have HF:=cU W;have S:=v.size;have hlt3:=g.lt;rw[show p.take (aE p)=norm p from rfl] at C;have t3:=bP (some ⟨O.heap.size,0,none⟩) N N p w4 P (Nat.le_refl _) x.cells
 have HB:BW w1 w4:=(j.trans (t.mono z)).trans (v.below z)
 have ev:val p=val l / d/\left=val l % d:=by
  have hh:=Int.ediv_emod_unique (a:=val l) (b:=d) (r:=left) (q:=val p) F;have:=hh.2 ⟨by rw[<- ac,<- G,Int.mul_comm];omega,I,af⟩;exact⟨this.1.symm,this.2.symm⟩
 rw[ev.1] at HF
 have B:Hid (left=val l % d):=ev.2;clear v g G j t m ev;generalize aE p=K at *;generalize norm p=R at *;go_wp2_with fail;refine t3.mono ?_
 rintro e w5 ⟨rfl,rfl⟩;go_wp2_with fail;refine(np left w5 I (by omega)).mono ?_
 rintro e w6 ⟨u,s,rfl,J,aa,hsl,D⟩;go_wp2;go_ret3;refine⟨_,u,R,s,rfl,(dL.of Z.symm (Nat.le_refl _) z C (λi hi=>Y i (by omega))).later D,J.mono (by omega),HF,by rw[<- B.out];exact aa,by omega,by omega,HB.trans (D.mono (by omega))⟩
end
section
variable {l:List Int}{S T v1:Int}
theorem fT(s:Nat)(hs:s<=63):(0:Int) < 2 ^ s/\(2:Int) ^ s < 18446744073709551616/\(2:Int) ^ s * 2 ^ (64 - s)=18446744073709551616/\(0:Int) < 2 ^ (64 - s):=by
 have a:(0:Int) < 2 ^ s:=Int.pow_pos (by decide)
 have b:(2:Nat) ^ s<=2 ^ 63:=Nat.pow_le_pow_right (by decide) hs
 have e:((2 ^ s:Nat):Int)=(2:Int) ^ s:=by rw[Int.natCast_pow];rfl
 have e2:(2:Nat) ^ 63=9223372036854775808:=by decide
 refine⟨a,by omega,?_,Int.pow_pos (by decide)⟩;rw[<- Int.pow_add,show s+(64 - s)=64 from by omega];rfl
theorem oO(ao:Option Addr)(n c b o s:Nat)(l:List Int)(w:World)(D:l.length=n)(hc:n≤c)(hs:s≤63)(wl:Words l)(E:At w ao b o l)(hbig:n≤1099511627776:=by omega) :
    Calls Tryz.prog 373 #[.slice ao n c,.int .i64 s] w λe w'=>∃ lz,e=.returned (.slice (some ⟨w.heap.size,0,none⟩) (n+1) (n+1))∧lz.length=n+1∧Words lz∧At w' (some ⟨w.heap.size,0,none⟩) w.heap.size 0 lz∧dN w' w.heap.size 0 (n+1)∧w.heap.size < w'.heap.size∧val lz=val l * 2 ^ s∧BW w w':=by
  obtain⟨p1,C,F,H⟩:= fT s hs
  have v:l=[]∨b≠w.heap.size:=by
    rcases E.lt with e | e
    · exact .inl e
    · exact .inr (by omega)
  have m:=aR wl;have q:=dO wl
  have A:Hid (0≤val l * 2 ^ s∧val l * 2 ^ s < 18446744073709551616 ^ (n+1)):=by
    refine⟨Int.mul_nonneg m (Int.le_of_lt p1),?_⟩
    have N:val l * 2 ^ s≤val l * 18446744073709551616:=Int.mul_le_mul_of_nonneg_left (by omega) m;rw[D] at q;rw[Int.pow_succ];omega
  obtain⟨S,hS⟩:∃ S,(2:Int) ^ s=S:=⟨_,rfl⟩;rw[hS] at p1 C A ⊢
  have L:IntKind.u64.wrap S=S:=IntWalk.u64_in _ ⟨by omega,by omega⟩;clear F H m q;go_enter Tryz.func373,Tryz.ntmps373;go_wp2_with (at_make;refine cY rfl _ _ rfl (n+1) _ _ rfl rfl ?_;intro J d g y);have u:=E.keep g;refine(ey _ w.heap.size 0 (n+1) (n+1) ao b o n c S (List.replicate (n+1) 0) l J (by simp) D (Nat.le_refl _) hc (by omega) C (eE _) wl d.at (d.free _ _) u v).mono ?_
  rintro e M ⟨rfl,lz,x,z,p,f,j⟩;have B:=f.free (d.free 0 (n+1));have I:=d.lt;have t:=f.size;rw[fp (l:=List.replicate (n+1) 0) (λi=>by simp[nth,List.getElem?_replicate];split <;> rfl),Int.zero_add,Int.emod_eq_of_lt A.out.1 A.out.2] at j;have G:=(show Hid _ from j);have K:=g.trans (f.below (Nat.le_refl _))
  have r:w.heap.size < M.heap.size:=by omega
  clear j t y d f g;go_wp2;go_ret;exact⟨lz,rfl,x,z,p,B,r,G.out,K⟩
structure nY(lz:List Int)(S:Int)(h:Nat)(lz1:List Int):Prop where
 len:lz1.length=lz.length
 words:Words lz1
 low:∀ i,i < h->nth lz1 i=nth lz i
 val:Lim.val (lz1.drop h)=Lim.val (lz.drop h) / S
theorem EF(S T:Int)(h:S * T=18446744073709551616)(k:Nat):val (l.drop k) % S=nth l k % S:=by
 by_cases hk:k < l.length
 ·rw[dQ hk,<- h,Int.mul_assoc,Int.add_mul_emod_self_left]
 rw[List.drop_of_length_le (by omega),fW];rfl
theorem nY.step{lz lz1:List Int}{b:Int}{h:Nat}(hS:0 < S)(a:S * T=18446744073709551616)(hv:nY lz S (h+1) lz1)(d:h < lz.length)(z0:0<=b)(z1:b < 18446744073709551616)(e:b=nth lz h / S+T * (nth lz (h+1) % S)):nY lz S h (lz1.set h b):=by
 have c:=hv.len;refine⟨by simp[c],hv.words.set h z0 z1,λi hi=>by rw[dB,if_neg (by omega)];exact hv.low i (by omega),?_⟩;rw[dQ (by simp;omega),dB,if_pos rfl,List.drop_set,if_pos (by omega),hv.val,dQ d,e,<- EF S T a (h+1)];generalize Lim.val (lz.drop (h+1))=Y
 have e1:nth lz h+18446744073709551616 * Y=nth lz h+S * (T * Y):=by rw[<- a];grind
 rw[e1,Int.add_mul_ediv_left _ _ (by omega)];have e2:=Int.mul_ediv_add_emod Y S
 have e3:T * Y=T * (S * (Y / S)+Y % S):=by rw[e2]
 rw[e3,<- a];grind
theorem Ak{x y:Int}(s:Nat)(i:S=2 ^ s)(f:T=2 ^ (64 - s))(hs:s<=63)(hx:0<=x/\x < 18446744073709551616) :
  bits .or .u64 (x / S) (IntKind.u64.wrap (y * T))=x / S+T * (y % S)/\0<=x / S+T * (y % S)/\x / S+T * (y % S) < 18446744073709551616:=by
 obtain⟨p1,h,b,c⟩:=fT s hs;rw[<- i] at p1 h b;rw[<- f] at b c
 have a:0<=x / S:=Int.ediv_nonneg hx.1 (Int.le_of_lt p1)
 have e:x / S < T:=by rw[Int.ediv_lt_iff_lt_mul p1,Int.mul_comm,b];exact hx.2
 have d:=Int.emod_nonneg y (show S≠0 by omega);have m:=Int.emod_lt_of_pos y p1
 have k:IntKind.u64.wrap (y * T)=y % S * T:=by
  rw[IntKind.wrap_u64,<- b,Int.mul_comm y T,Int.mul_comm S T,Int.mul_emod_mul_of_pos _ _ c,Int.mul_comm]
 have g:0<=y % S * T:=Int.mul_nonneg d (Int.le_of_lt c)
 have j:(y % S+1) * T<=S * T:=Int.mul_le_mul_of_nonneg_right (by omega) (Int.le_of_lt c);rw[Int.add_mul,Int.one_mul,b] at j
 have l:T<=18446744073709551616:=by
  have:1 * T<=S * T:=Int.mul_le_mul_of_nonneg_right (by omega) (Int.le_of_lt c);omega
 rw[k,Int.mul_comm T];refine⟨?_,by omega,by omega⟩;rw[u64_or _ _ a (by omega) g (by omega),Nat.or_comm,<- u64_or _ _ g (by omega) a (by omega)];rw[qm _ _ (64 - s) (y % S) (by rw[f]) d a (by rw[<- f];exact e),Int.add_comm]
theorem yc(m:Option Addr)(g i b v s:Nat)(lz:List Int)(w:World)(t:lz.length=b)(hbig:b<=2199023255552)(j:b<=v)(hs:s<=63)(q:Words lz)(p:At w m g i lz)(u:dN w g i b) :
  Calls Tryz.prog 375 #[.slice m b v,.int .i64 s] w λe w'=>e=.returned (.tuple #[])/\∃ lz',lz'.length=b/\Words lz'/\At w' m g i lz'/\Wr g i b w w'/\val lz'=val lz / 2 ^ s:=by
 obtain⟨p1,N,C,O⟩:=fT s hs;go_enter Tryz.func375,Tryz.ntmps375;go_wp2;go_loopw [4,10] (λtc r wr=>∃ (k:Nat) (c:List Int),k<=b/\r=.int .i64 k/\tc=.int .u64 (nth lz (b - k))/\nY lz (2 ^ s) (b - k) c/\At wr m g i c/\Wr g i b w wr) (λ_ r _=>b - (intOf r).toNat)
 case atStart=>exact⟨0,lz,Nat.zero_le _,rfl,by rw[fW],⟨rfl,q,λ_ _=>rfl,by rw[Nat.sub_zero,List.drop_of_length_le (by omega)];simp[val]⟩,p,Wr.refl _ _ _ _⟩
 case round =>
  obtain⟨k,c,hk,rfl,rfl,hinv,d,f⟩:=hrel;have o:=hinv.len;by_cases G:k < b
  ·rcases p.loc with e | rfl
   ·subst e;simp at t;omega
   obtain⟨h,B⟩:∃ h:Nat,b=h+1+k:=⟨b - 1 - k,by omega⟩
   have j:=d.cell h (by omega);have H:=f.free u h (by omega);rw[hinv.low h (by omega)] at j
   have z:(b:Int) - 1 - k=h:=by omega
   have I:(h:Int) < b:=by omega
   have l:b - k=h+1:=by omega
   rw[l] at hinv ⊢;obtain⟨e1,e2,e3⟩:=Ak (y:=nth lz (h+1)) s rfl rfl hs (q.nth h)
   have J:Hid (nY lz (2 ^ s) h (c.set h (nth lz h / 2 ^ s+2 ^ (64 - s) * (nth lz (h+1) % 2 ^ s)))):=hinv.step p1 C (by omega) e2 e3 rfl
   have F:Hid (b=h+1+k):=B;have D:=(show Hid _ from d)
   have K:=(show Hid _ from f)
   have M:Hid (nth lz (b - (k+1))=nth lz h):=by show _=_;rw[show b - (k+1)=h from by omega]
   have E:Hid (b - (k+1)=h):=by show _=_;omega
   clear B hinv p q d f l;generalize nth lz h=x at *;generalize nth lz (h+1)=y at *
   have A:(64:Int) - s=((64 - s:Nat):Int):=by omega
   go_wp2_with fail;go_region;go_wp2;refine⟨⟨k+1,_,by omega,by go_num,by rw[M.out],by rw[E.out];exact J.out,?_,?_⟩,by simp[intOf];omega⟩
   ·exact(D.out.setCell (by omega) _).drew
   exact(K.out.setCell (by omega) (by have:=F.out;omega) _).drew
  have n:k=b:=by omega
  subst n;have hv:=hinv.val;rw[Nat.sub_self,List.drop_zero,List.drop_zero] at hv;have L:=(show Hid _ from hv)
  clear hv;go_wp2;go_end0;exact⟨rfl,c,by omega,hinv.words,d,f,L.out⟩
def sX(u v g:Int):Prop:=0<=g/\g < 18446744073709551616/\(g - 1) * v<=u/\u < (g+1) * v
theorem Aw{u v u0 R P:Int}(b:0 < P)(hv:v < (v1+1) * P)(h1:9223372036854775808<=v1)(hu:u=u0 * 18446744073709551616 * P+R)(c:0<=R)(h0:v1<=u0)(a:u < v * 18446744073709551616):sX u v 18446744073709551615:=by
 refine⟨by decide,by decide,?_,by rw[show (18446744073709551615+1:Int)=18446744073709551616 from rfl,Int.mul_comm];exact a⟩
 have k1:v * 18446744073709551614<=(v1+1) * P * 18446744073709551614:=Int.mul_le_mul_of_nonneg_right (by omega) (by decide)
 have k2:v1 * P<=u0 * P:=Int.mul_le_mul_of_nonneg_right h0 (by omega)
 have k3:9223372036854775808 * P<=v1 * P:=Int.mul_le_mul_of_nonneg_right h1 (by omega)
 have e1:(v1+1) * P * 18446744073709551614=v1 * P * 18446744073709551614+P * 18446744073709551614:=by grind
 have e2:u0 * 18446744073709551616 * P=u0 * P * 18446744073709551616:=by grind
 rw[show (18446744073709551615 - 1:Int)=18446744073709551614 from rfl,Int.mul_comm];omega
theorem uy{u v v2 b g rest hi Q:Int}(hQ:0 < Q)(h:v1 * 18446744073709551616 * Q+v2 * Q<=v)(hv:v < v1 * 18446744073709551616 * Q+(v2+1) * Q)(h1:9223372036854775808<=v1)(n:0<=v2)(t:v2 < 18446744073709551616)(m:b * (18446744073709551616 * Q)<=u)(hu:u < (b+1) * (18446744073709551616 * Q))(a:0<=g)(l:g < 18446744073709551616)(j:0<=rest)(y:rest < v1)(he:g * v1+rest=b)(lo:Int)(i:0<=lo)(z:lo < 18446744073709551616)(hm:hi * 18446744073709551616+lo=g * v2) :
  (rest < hi->sX u v (g - 1))/\(hi<=rest->sX u v g):=by
 have p:0<=g * v2:=Int.mul_nonneg a n
 have k:g * v2<=g * 18446744073709551615:=Int.mul_le_mul_of_nonneg_left (by omega) a
 have e:0<=hi:=by omega
 have d:hi<=18446744073709551615:=by omega
 obtain⟨X,hX⟩:∃ X,18446744073709551616 * Q=X:=⟨_,rfl⟩
 have w:0 < X:=by omega
 have x:g * (v1 * 18446744073709551616 * Q+v2 * Q)<=g * v:=Int.mul_le_mul_of_nonneg_left h a
 have B:g * v<=g * (v1 * 18446744073709551616 * Q+(v2+1) * Q):=Int.mul_le_mul_of_nonneg_left (by omega) a
 have e1:g * (v1 * 18446744073709551616 * Q+v2 * Q)=b * X - rest * X+hi * X+lo * Q:=by
  rw[<- hX,<- he];have:g * (v2 * Q)=(hi * 18446744073709551616+lo) * Q:=by rw[hm];grind
  grind
 have e2:g * (v1 * 18446744073709551616 * Q+(v2+1) * Q)=b * X - rest * X+hi * X+lo * Q+g * Q:=by
  have:g * (v1 * 18446744073709551616 * Q+(v2+1) * Q)=g * (v1 * 18446744073709551616 * Q+v2 * Q)+g * Q:=by grind
  rw[this,e1]
 rw[e1] at x;rw[e2] at B
 have e3:v1 * 18446744073709551616 * Q=v1 * X:=by rw[<- hX];grind
 rw[e3] at h;rw[hX] at m hu;rw[Int.add_mul,Int.one_mul] at hu
 have k1:9223372036854775808 * X<=v1 * X:=Int.mul_le_mul_of_nonneg_right h1 (by omega)
 have k2:(rest+1) * X<=v1 * X:=Int.mul_le_mul_of_nonneg_right (by omega) (by omega)
 have k3:lo * Q<=18446744073709551615 * Q:=Int.mul_le_mul_of_nonneg_right (by omega) (by omega)
 have r:0<=lo * Q:=Int.mul_nonneg i (by omega)
 have D:g * Q<=18446744073709551615 * Q:=Int.mul_le_mul_of_nonneg_right (by omega) (by omega)
 have C:0<=v2 * Q:=Int.mul_nonneg n (by omega)
 have G:0<=hi * X:=Int.mul_nonneg e (by omega)
 have F:0<=rest * X:=Int.mul_nonneg j (by omega)
 have E:hi * X<=18446744073709551615 * X:=Int.mul_le_mul_of_nonneg_right d (by omega);rw[Int.add_mul,Int.one_mul] at k2;constructor
 ·intro A
  have q:(rest+1) * X<=hi * X:=Int.mul_le_mul_of_nonneg_right (by omega) (by omega);rw[Int.add_mul,Int.one_mul] at q
  have o:1<=g:=by
   by_cases c:1<=g
   ·exact c
   have:g=0:=by omega
   subst this;simp at hm;omega
  have f:hi<=18446744073709551614:=by omega
  have s:hi * X<=18446744073709551614 * X:=Int.mul_le_mul_of_nonneg_right f (by omega);refine⟨by omega,by omega,?_,?_⟩
  ·rw[show (g - 1 - 1) * v=g * v - 2 * v from by grind];omega
  rw[show (g - 1+1) * v=g * v from by grind];omega
 intro hle
 have q:hi * X<=rest * X:=Int.mul_le_mul_of_nonneg_right hle (by omega);refine⟨a,l,?_,?_⟩
 ·rw[Int.sub_mul,Int.one_mul];omega
 rw[Int.add_mul,Int.one_mul];omega
end
section
variable {f:FuncId}{args:Array Value}{w:World}{n:Nat}{v:Value}{l:List Int}
theorem sW(hi lo y:Int)(w:World)(h0:0<=hi)(h1:hi < y)(a:0<=lo)(l1:lo < 18446744073709551616)(y1:y < 18446744073709551616) :
  CP 388 #[.int .u64 hi,.int .u64 lo,.int .u64 y] w λe w'=>e=.returned (.tuple #[.int .u64 ((hi * 18446744073709551616+lo) / y),.int .u64 ((hi * 18446744073709551616+lo) % y)])/\∃ n,w'=w.drewN n:=by
 by_cases c:hi=0
 ·subst c;refine(oh lo y w a l1 y1).mono ?_
  rintro e w' ⟨rfl,hw⟩;exact⟨by simp,hw⟩
 refine(o8 hi lo y w h1 a l1 y1).mono ?_
 rintro e w' ⟨rfl,rfl⟩;exact⟨rfl,0,rfl⟩
theorem oB{P:Program}(h:Calls P f args (w.drewN n) λe w'=>e=.returned v/\∃ m,w'=(w.drewN n).drewN m):Calls P f args (w.drewN n) λe w''=>e=.returned v/\∃ m,w''=w.drewN m :=
 h.mono λ_ _ ⟨he,m,hm⟩=>⟨he,n+m,by rw[hm,World.drewN_drewN]⟩
theorem top2(wl:Words l)(hn:l.length=n+2):(nth l (n+1) * 18446744073709551616+nth l n) * 18446744073709551616 ^ n<=val l/\val l < (nth l (n+1) * 18446744073709551616+nth l n+1) * 18446744073709551616 ^ n:=by
 have e1:=bN l n;have b:=aR (wl.take n);have a:=dO (wl.take n);rw[List.length_take,Nat.min_eq_left (by omega)] at a;rw[dQ (by omega),dQ (by omega),List.drop_of_length_le (show l.length<=n+1+1 by omega)] at e1
 have e2:(18446744073709551616:Int) ^ n * (nth l n+18446744073709551616 * (nth l (n+1)+18446744073709551616 * val []))=(nth l (n+1) * 18446744073709551616+nth l n) * 18446744073709551616 ^ n:=by
  rw[show val []=0 from rfl];grind
 rw[e2] at e1;rw[Int.add_mul (nth l (n+1) * 18446744073709551616+nth l n) 1];omega
theorem yD(au:Option Addr)(cu H K:Nat)(av:Option Addr)(k cv bv C:Nat)(lu i:List Int)(w:World)(s:lu.length=k+3)(t:i.length=k+2)(hbig:k<=1099511627776)(wu:Words lu)(B:Words i)(hu:At w au H K lu)(hv:At w av bv C i)(o:9223372036854775808<=nth i (k+1))(v:val lu < val i * 18446744073709551616) :
  Calls Tryz.prog 389 #[.slice au (k+3) cu,.slice av (k+2) cv] w λe w'=>∃ g:Int,e=.returned (.int .u64 g)/\sX (val lu) (val i) g/\BW w w':=by
 obtain⟨f,p⟩:=top2 B t;obtain⟨d,j⟩:=top2 (n:=k+1) wu s;have c0:=hu.cell (k+2) (by omega);have c1:=hu.cell (k+1) (by omega);have d1:=hv.cell (k+1) (by omega);have d2:=hv.cell k (by omega);have b0:=wu.nth (k+2);have b1:=wu.nth (k+1);have e1:=B.nth (k+1);have e2:=B.nth k;have T:=pow_pos k;have M:=pow_pos (k+1);rcases hu.loc with e | rfl
 ·subst e;simp at s
 rcases hv.loc with e | rfl
 ·subst e;simp at t
 rw[show k+1+1=k+2 from rfl] at d j;have F:=(show Hid _ from v)
 clear hu hv wu B v s t;obtain⟨N,D⟩:∃ N,k+2=N:=⟨_,rfl⟩
 obtain⟨m,hm⟩:∃ m,k+1=m:=⟨_,rfl⟩
 have hN1:(N:Int) - 1=m:=by omega
 have hN2:(N:Int) - 2=k:=by omega
 have hmN:(m:Int) < N:=by omega
 have hkN:(k:Int) < N:=by omega
 have hmN1:(m:Int) < (N:Int)+1:=by omega
 have X:(N:Int) < (N:Int)+1:=by omega
 have hNb:N<=1099511627778:=by omega
 have Z:m<=N:=by omega
 have Y:m < N+1:=by omega
 have hmi:(m:Int)<=N:=by omega
 have hwm:IntKind.i64.wrap (m:Int)=m:=by rw[IntKind.wrap_i64];omega
 have hwk:IntKind.i64.wrap (k:Int)=k:=by rw[IntKind.wrap_i64];omega
 generalize nth lu (k+2)=u0 at *;generalize nth lu (k+1)=c at *;generalize nth i (k+1)=v1 at *;generalize nth i k=v2 at *;generalize val lu=U at *;generalize val i=V at *;by_cases O:v1<=u0
 ·have HN:Hid (sX U V 18446744073709551615):=by
   refine Aw (v1:=v1) (u0:=u0) (P:=18446744073709551616 ^ (k+1)) (R:=U - u0 * 18446744073709551616 * 18446744073709551616 ^ (k+1)) M ?_ o (by omega) ?_ O F.out
   ·rw[Int.pow_succ];have:(v1 * 18446744073709551616+v2+1) * 18446744073709551616 ^ k<=(v1 * 18446744073709551616+18446744073709551616) * 18446744073709551616 ^ k:=Int.mul_le_mul_of_nonneg_right (by omega) (by omega)
    have e:(v1 * 18446744073709551616+18446744073709551616) * 18446744073709551616 ^ k=(v1+1) * (18446744073709551616 ^ k * 18446744073709551616):=by grind
    omega
   have:0<=c * 18446744073709551616 ^ (k+1):=Int.mul_nonneg b1.1 (by omega);rw[Int.add_mul] at d;omega
  rw[show k+3=N+1 from by omega,D] at *;rw[hm] at c1 d1;clear d j f p T M D hm;go_enter Tryz.func389,Tryz.ntmps389;go_wp2_with fail;go_quiet (fail);go_wp2;go_ret;exact⟨_,rfl,HN.out,below_drewN (Below.refl _ _) _⟩
 have y:∀ g rest hi lo:Int,0<=g->g < 18446744073709551616->0<=rest->rest < v1->g * v1+rest=u0 * 18446744073709551616+c->0<=lo->lo < 18446744073709551616->hi * 18446744073709551616+lo=g * v2->(rest < hi->sX U V (g - 1))/\(hi<=rest->sX U V g):=by
  intro g rest hi lo h1 h2 h3 h4 h5 h6 h7 h8;refine uy (Q:=18446744073709551616 ^ k) T ?_ ?_ o e2.1 e2.2 ?_ ?_ h1 h2 h3 h4 h5 lo h6 h7 h8
  ·rw[Int.add_mul] at f;exact f
  ·have e:(v1 * 18446744073709551616 + v2 + 1) * 18446744073709551616 ^ k=v1 * 18446744073709551616 * 18446744073709551616 ^ k + (v2 + 1) * 18446744073709551616 ^ k:=by grind
   rw[<- e];exact p
  ·rw[Int.mul_comm 18446744073709551616,<- Int.pow_succ];exact d
  rw[Int.mul_comm 18446744073709551616,<- Int.pow_succ];exact j
 have r:=(show Hid _ from y)
 have q:=Int.mul_ediv_add_emod (u0 * 18446744073709551616+c) v1;have L:=Int.emod_nonneg (u0 * 18446744073709551616+c) (show v1≠0 by omega);have E:=Int.emod_lt_of_pos (u0 * 18446744073709551616+c) (show 0 < v1 by omega)
 have u:0<=(u0 * 18446744073709551616+c) / v1:=Int.ediv_nonneg (by omega) (by omega)
 have x:(u0 * 18446744073709551616+c) / v1 < 18446744073709551616:=by
  rw[Int.ediv_lt_iff_lt_mul (by omega)];have:(u0+1) * 18446744073709551616<=v1 * 18446744073709551616:=Int.mul_le_mul_of_nonneg_right (by omega) (by decide);omega
 have tD:=λwx:World=>sW u0 c v1 wx b0.1 (by omega) b1.1 b1.2 e1.2
 generalize hg:(u0 * 18446744073709551616+c) / v1=g at *;generalize hr:(u0 * 18446744073709551616+c) % v1=rest at *;rw[Int.mul_comm] at q;have W:=(show Hid _ from q)
 rw[show k+3=N+1 from by omega,D] at *;rw[hm] at c1 d1;clear y q hg hr d j f p T M D hm
 have hge':u0 < v1:=by omega
 go_enter Tryz.func389,Tryz.ntmps389;go_wp2_with fail;go_quiet (fail)
 have G:(w.drewN nq).cell? ⟨H,K+N,none⟩=some (.int .u64 u0):=c0
 have S:(w.drewN nq).cell? ⟨H,K+m,none⟩=some (.int .u64 c):=c1
 have J:(w.drewN nq).cell? ⟨bv,C+m,none⟩=some (.int .u64 v1):=d1
 have z:(w.drewN nq).cell? ⟨bv,C+k,none⟩=some (.int .u64 v2):=d2;have A:=below_drewN (Below.refl w.heap.size w) nq;clear c0 c1 d1 d2;generalize w.drewN nq=W1 at *;go_wp2_with fail;go_quiet ((go_at_call 388;exact oB (tD _)))
 have d2'':(W1.drewN nq).cell? ⟨bv,C+k,none⟩=some (.int .u64 v2):=z;have l:=below_drewN A nq;clear G S J z A tD;generalize W1.drewN nq=W2 at *;go_wp2_with fail;refine(mj g v2 u x e2.1 e2.2 _).mono ?_
 rintro e w3 ⟨hi,lo,rfl,i1,i2,i3,i4,i5,rfl⟩;have b:=r.out g rest hi lo u x L E W.out i3 i4 i5.out;by_cases hc:rest < hi
 ·have I:=(show Hid _ from b.1 hc)
  have hg2:0<=g - 1:=(b.1 hc).1;clear b r;go_wp2;go_ret;exact⟨_,rfl,I.out,l⟩
 have I:=(show Hid _ from b.2 (by omega))
 clear b r;go_wp2;go_ret;exact⟨_,rfl,I.out,l⟩
end
section
variable {L L' lz:List Int}{k:Nat}
theorem zO(hL:Words L)(a:Words L')(c:Words lz)(hk:k < L.length)(p:lz.length=L.length+L'.length)(hv:val lz=val (L.take k) * val L') :
  0<=val ((lz.drop k).take (L'.length+1))+val L' * nth L k/\val ((lz.drop k).take (L'.length+1))+val L' * nth L k < 18446744073709551616 ^ (L'.length+1):=by
 have e:=dO (hL.take k);have m:=dO a;have r:=aR (hL.take k);have b:=aR a;have o:=aR (c.take k);have t:=aR ((c.drop k).take (L'.length+1));have f:=aR ((c.drop k).drop (L'.length+1));have i:=hL.nth k;rw[List.length_take,Nat.min_eq_left (by omega)] at e;have e1:=bN lz k;have e2:=bN (lz.drop k) (L'.length+1) (h:=by simp;omega);have g:=pow_pos k;have hq:=pow_pos L'.length;have j:=pow_pos (L'.length+1)
 have s:val (L.take k) * val L'<=18446744073709551616 ^ k * val L':=Int.mul_le_mul_of_nonneg_right (by omega) b
 have d:(18446744073709551616:Int) ^ k * val (lz.drop k)<=18446744073709551616 ^ k * val L':=by omega
 have n:val (lz.drop k)<=val L':=Int.le_of_mul_le_mul_left d g
 have u:0<=18446744073709551616 ^ (L'.length+1) * val ((lz.drop k).drop (L'.length+1)):=Int.mul_nonneg (Int.le_of_lt j) f
 have q:val L' * nth L k<=val L' * 18446744073709551615:=Int.mul_le_mul_of_nonneg_left (by omega) b
 have l:0<=val L' * nth L k:=Int.mul_nonneg b i.1;refine⟨by omega,?_⟩;rw[Int.pow_succ];omega
structure lL(L L' lz:List Int)(k:Nat):Prop where
 len:lz.length=L.length+L'.length
 words:Words lz
 val:Lim.val lz=Lim.val (L.take k) * Lim.val L'
theorem lL.step{lw:List Int}(hL:Words L)(b:Words L')(hk:k < L.length)(h:lL L L' lz k)(hw:Words lw)(c:lw.length=L'.length+1)(hv:Lim.val lw=(Lim.val ((lz.drop k).take (L'.length+1))+Lim.val L' * nth L k) % 18446744073709551616 ^ (L'.length+1)):lL L L' (patch lz k lw) (k+1):=by
 have a:=zO hL b h.words hk h.len h.val;rw[Int.emod_eq_of_lt a.1 a.2] at hv;have d:=h.len;refine⟨by rw[fm];exact h.len,lU h.words hw,?_⟩;rw[pr,c,hv,h.val,du hk];grind
theorem qa(ao:Option Addr)(n c b o:Nat)(ao':Option Addr)(n' c' b' o':Nat)(l p:List Int)(w:World)(hl:l.length=n)(hl':p.length=n')(hc:n<=c)(Y:n'<=c')(hbig:n<=1099511627776)(hbig':n'<=1099511627776)(wl:Words l)(wl':Words p)(ha:At w ao b o l)(J:At w ao' b' o' p) :
  Calls Tryz.prog 267 #[.slice ao n c,.slice ao' n' c'] w λe w'=>∃ v r,e=.returned v/\dL w w' v r/\IsN r (val l * val p)/\r.length<=n+n'/\BW w w':=by
 have hn:=bO l
 have hn':=bO p;have t1:=bP ao n c l w hl hc ha.cells;have t2:=bP ao' n' c' p w hl' Y J.cells;have U:=ha.sub (aE l)
 have z:=J.sub (aE p);have T:=aK l
 have u:=aK p;have hI:=cU wl
 have H:=cU wl';rw[show l.take (aE l)=norm l from rfl] at U;rw[show p.take (aE p)=norm p from rfl] at z;generalize aE l=N at *;generalize aE p=d at *;generalize norm l=L at *;generalize norm p=Q at *
 have s:L=[]\/b≠w.heap.size:=by
  rcases U.lt with e | e
  ·exact .inl e
  exact .inr (by omega)
 have M:Q=[]\/b'≠w.heap.size:=by
  rcases z.lt with e | e
  ·exact .inl e
  exact .inr (by omega)
 clear ha J;go_enter Tryz.func267,Tryz.ntmps267;go_wp2_with fail;refine t1.mono ?_
 rintro e w1 ⟨rfl,rfl⟩;go_wp2_with fail;refine t2.mono ?_
 rintro e A ⟨rfl,rfl⟩;clear t1 t2;go_wp2_with (at_make;refine cY rfl _ _ rfl (N+d) _ _ rfl rfl ?_;intro w3 t j hsz);have F:=U.keep j;have S:=z.keep j;have C:=t.at
 have B:=t.free 0 (N+d);clear U z t;go_loopw [22] (λti wr=>∃ (k:Nat) (f:List Int),k<=N/\ti=.int .i64 k/\lL L Q f k/\At wr (some ⟨A.heap.size,0,none⟩) A.heap.size 0 f/\Wr A.heap.size 0 (N+d) w3 wr) (λti _=>N - (intOf ti).toNat)
 case atStart=>exact⟨0,_,Nat.zero_le _,rfl,⟨by simp[T,u],eE _,by simp[val,fp (l:=List.replicate (N+d) 0) λi=>by simp[nth,List.getElem?_replicate];split<;>rfl]⟩,C,Wr.refl _ _ _ _⟩
 case round =>
  clear C;obtain⟨k,f,hk,rfl,hinv,q,g⟩:=hrel;by_cases hlt:k < N
  ·have hlen:=hinv.len;rcases F.loc with e | rfl
   ·subst e;simp at T;omega
   have s:=s;have hcx:=(F.wr g s).cell k (by omega)
   have E:=S.wr g M;have hx:=hI.1.nth k;have I:=(g.free B).fO (k:=k) (m:=d+1) (by omega);have y:=(q.drew).fO k (d+1);rw[Nat.zero_add] at y I
   have hkn:k+d+1 - k=d+1:=by omega
   have G:=ey (some ⟨A.heap.size,k,none⟩) A.heap.size k (d+1) (d+1) ao' b' o' d d (nth L k) ((f.drop k).take (d+1)) Q wr.drew (by simp;omega) u (Nat.le_refl _) (Nat.le_refl _) hx.1 hx.2 ((hinv.words.drop k).take _) H.1 y I.drew E.drew M
   have HX:Hid (∀ lw,Words lw->lw.length=d+1->val lw=(val ((f.drop k).take (d+1))+val Q * nth L k) % 18446744073709551616 ^ (d+1)->lL L Q (patch f k lw) (k+1)):=by
    intro lw h1 h2 h3;rw[<- u] at h2 h3;exact lL.step hI.1 H.1 (by omega) hinv h1 h2 h3
   have HA:Hid (At wr.drew (some ⟨A.heap.size,0,none⟩) A.heap.size 0 f):=q.drew
   have HW:Hid (Wr A.heap.size 0 (N+d) w3 wr.drew):=g.drew;clear I y E hinv g q;generalize nth L k=x at *;go_wp2_with fail;go_region_with (go_at_call 273;refine G.mono ?_;rintro e w5 ⟨rfl,lw,V,X,P,D,W⟩)
   all_goals go_wp2
   all_goals exact⟨⟨k+1,patch f k lw,by omega,by go_num,HX.out lw X V W,HA.out.patch (k:=k) (n:=d+1) (by rw[Nat.zero_add];exact D) (by rw[Nat.zero_add];exact P) (by omega) (by omega),HW.out.trans (D.mono (by omega) (by omega))⟩,by simp[intOf];omega⟩
  have hkN:k=N:=by omega
  subst hkN;have hv:=hinv.val;have hlen:=hinv.len;have Z:=hinv.words;rw[List.take_of_length_le (by omega),hI.2.2,H.2.2] at hv;have hfz:=g.free B;have hz1:=bO f;have hz2:=aK f;have O:=q.sub (aE f)
  have HF:IsN (norm f) (val l * val p):=by rw[<- hv];exact cU Z
  have HB:=j.trans (g.below (Nat.le_refl _));rw[show f.take (aE f)=norm f from rfl] at O;have t3:=bP (some ⟨A.heap.size,0,none⟩) (k+d) (k+d) f wr (by omega) (Nat.le_refl _) q.cells;clear F S q g j hinv hv;generalize aE f=K at *;generalize norm f=R at *;go_wp2_with fail;refine t3.mono ?_
  rintro e w6 ⟨rfl,rfl⟩;go_wp2;go_ret;exact⟨_,R,rfl,dL.of hz2.symm (Nat.le_refl _) (Nat.le_refl _) O (λi hi=>hfz i (by omega)),HF,by omega,HB⟩
end
section
variable {lu lq lu1:List Int}{V:Int}{q0 k a n:Nat}{w:World}
structure lQ(lu:List Int)(V:Int)(q0 k m:Nat)(lq lu1:List Int):Prop where
 DO:lq.length=q0
 FH:lu1.length=q0+(k+2)
 wq:Words lq
 wu:Words lu1
 eq:val lu=18446744073709551616 ^ m * val (lq.drop m) * V+val lu1
 lt:val lu1 < V * 18446744073709551616 ^ m
theorem lQ.fO(h:lQ lu V q0 k (a+1) lq lu1)(n:a < q0)(p:V < 18446744073709551616 ^ (k+2)) :
  val lu1=val (lu1.take a)+18446744073709551616 ^ a * val ((lu1.drop a).take (k+3))/\val ((lu1.drop a).take (k+3)) < V * 18446744073709551616:=by
 have m:=h.FH;have e1:=bN lu1 a;have e2:=bN (lu1.drop a) (k+3) (h:=by simp;omega);have i:=aR (h.wu.take a);have j:=aR ((h.wu.drop a).take (k+3));have g:=aR ((h.wu.drop a).drop (k+3));have d:=h.lt;have b:=pow_pos a
 have e:val ((lu1.drop a).drop (k+3))=0:=by
  by_cases c:val ((lu1.drop a).drop (k+3))=0
  ·exact c
  have k1:18446744073709551616 ^ (k+3) * 1<=18446744073709551616 ^ (k+3) * val ((lu1.drop a).drop (k+3)):=Int.mul_le_mul_of_nonneg_left (by omega) (Int.le_of_lt (pow_pos _))
  have k2:18446744073709551616 ^ a * 18446744073709551616 ^ (k+3)<=18446744073709551616 ^ a * val (lu1.drop a):=Int.mul_le_mul_of_nonneg_left (by omega) (Int.le_of_lt b)
  have k3:(V+1) * 18446744073709551616 ^ (a+1)<=18446744073709551616 ^ (k+2) * 18446744073709551616 ^ (a+1):=Int.mul_le_mul_of_nonneg_right (by omega) (Int.le_of_lt (pow_pos _));rw[Int.add_mul] at k3
  have o:(18446744073709551616:Int) ^ (k+2) * 18446744073709551616 ^ (a+1)=18446744073709551616 ^ a * 18446744073709551616 ^ (k+3):=by rw[<- Int.pow_add,<- Int.pow_add];congr 1;omega
  have l:=pow_pos (a+1);omega
 rw[e,Int.mul_zero,Int.add_zero] at e2;rw[e2] at e1;refine⟨e1,?_⟩
 have f:18446744073709551616 ^ a * val ((lu1.drop a).take (k+3)) < 18446744073709551616 ^ a * (V * 18446744073709551616):=by
  have:18446744073709551616 ^ a * (V * 18446744073709551616)=V * 18446744073709551616 ^ (a+1):=by rw[Int.pow_succ];grind
  omega
 exact Int.lt_of_mul_lt_mul_left f (Int.le_of_lt b)
theorem lQ.step{d:Int}{nw:List Int}(h:lQ lu V q0 k (a+1) lq lu1)(j:a < q0)(n:V < 18446744073709551616 ^ (k+2))(d0:0<=d)(d1:d < 18446744073709551616)(wn:Words nw)(hn:nw.length=k+3)(e:val nw=val ((lu1.drop a).take (k+3)) - d * V)(e1:val nw < V):lQ lu V q0 k a (lq.set a d) (patch lu1 a nw):=by
 have hw:=h.fO j n;have i:=h.FH;have c:=h.DO;have b:=pr (l:=lu1) (m:=nw) (k:=a);have f:=dO (h.wu.take a);rw[List.length_take,Nat.min_eq_left (by omega)] at f;have g:=pow_pos a;refine⟨by simp[c],by rw[fm];exact i,h.wq.set a d0 d1,lU h.wu wn,?_,?_⟩
 ·rw[h.eq,dQ (l:=lq.set a d) (by simp;omega),dB,if_pos rfl,List.drop_set,if_pos (by omega),b,hn,e,Int.pow_succ];grind
 have k1:18446744073709551616 ^ a * (val nw+1)<=18446744073709551616 ^ a * V:=Int.mul_le_mul_of_nonneg_left (by omega) (Int.le_of_lt g);rw[b,hn,Int.mul_sub,Int.mul_comm V];rw[Int.mul_add] at k1;omega
theorem Fy{U g o Z:Int}{x:Int}(hn:sX U V g)(f:V < 18446744073709551616 ^ n)(hx:x=U - V * g+18446744073709551616 ^ n * o)(x1:x < 18446744073709551616 ^ n)(m:0<=U)(ho:0<=o) :
  (o=0->x=U - g * V/\x < V)/\(o≠0->Z=(x+V * 1) % 18446744073709551616 ^ n->1<=g/\Z=U - (g - 1) * V/\Z < V):=by
 obtain⟨g0,g1,k,l⟩:=hn;rw[Int.sub_mul] at k;rw[Int.add_mul] at l;rw[Int.mul_comm V g] at hx;have b:=pow_pos n;constructor
 ·intro h;subst h;omega
 intro h j
 have k1:18446744073709551616 ^ n * 1<=18446744073709551616 ^ n * o:=Int.mul_le_mul_of_nonneg_left (by omega) (Int.le_of_lt b)
 have a:o=1:=by
  by_cases c:2<=o
  ·have k2:18446744073709551616 ^ n * 2<=18446744073709551616 ^ n * o:=Int.mul_le_mul_of_nonneg_left c (Int.le_of_lt b);omega
  omega
 subst a
 have d:U - g * V < 0:=by omega
 have i:1<=g:=by
  by_cases c:1<=g
  ·exact c
  have:g=0:=by omega
  subst this;omega
 have e:x+V * 1=(U - (g - 1) * V)+18446744073709551616 ^ n * 1:=by rw[hx,Int.sub_mul];omega
 rw[e,Int.add_mul_emod_self_left,Int.sub_mul,Int.emod_eq_of_lt (by omega) (by omega)] at j;rw[Int.sub_mul];exact⟨i,by omega,by omega⟩
theorem jZ{P:Program}{a:Act}{Q:Exit->Act->World->Prop}{c rest:Code}(l:Nat)(J:Act->World->Prop)(μ:Act->World->Nat)(hf:findLabel c l=some (Code.skip.seq rest))(first:(∀ a w,J a w->rest.wp P (Exit.jump l J Q) a w)->c.wp P (Exit.jump l J Q) a w)(pass:∀ a w,J a w->rest.wp P (Exit.jump l (λa' w'=>J a' w'/\μ a' w' < μ a w) Q) a w):(Code.scope c).wp P Q a w :=
 wp_scope_jumps l J μ hf (first λa w b=>wp_mono (pass a w b) λe a' w' h=>by
  cases e with
  | goto l'=>exact⟨h.1,h.2.1⟩
  | _=>exact h) λa w b=>wp_seq (wp_skip (pass a w b))
theorem ub{l m a:List Int}(h:k+m.length<=l.length)(hm:a.length=m.length):patch (patch l k m) k a=patch l k a:=by
 have e:(l.take k).length=k:=by simp;omega
 unfold patch;rw[List.take_left' e,hm,<- List.append_assoc (l.take k) m,List.drop_left' (by simp;omega)]
theorem dN.below{B:Nat}{w':World}(h:Below B w w'){b o:Nat}(k:dN w b o n)(hb:b < B):dN w' b o n:=λi hi=>by
 rw[World.frozen?_of_block (w:=w) (h.block b hb)];exact k i hi
theorem nC(s z cu:Nat)(av:Option Addr)(k q0 cv bv ov:Nat)(lu H:List Int)(w:World)(ad:lu.length=q0+(k+2))(U:H.length=k+2)(hbig:k<=1099511627776)(hbigq:q0<=1099511627776)(hcu:q0+(k+2)<=cu)(hcv:k+2<=cv)(wu:Words lu)(wv:Words H)(hu:At w (some ⟨s,z,none⟩) s z lu)(hfu:dN w s z (q0+(k+2)))(hv:At w av bv ov H)(ab:bv≠s)(htop:9223372036854775808<=nth H (k+1))(hval:val lu < val H * 18446744073709551616 ^ q0) :
  Calls Tryz.prog 374 #[.slice (some ⟨s,z,none⟩) (q0+(k+2)) cu,.slice av (k+2) cv] w λe w'=>∃ lq lr:List Int,e=.returned (.slice (some ⟨w.heap.size,0,none⟩) q0 q0)/\lQ lu (val H) q0 k 0 lq lr/\At w' (some ⟨w.heap.size,0,none⟩) w.heap.size 0 lq/\dN w' w.heap.size 0 q0/\At w' (some ⟨s,z,none⟩) s z lr/\dN w' s z (q0+(k+2))/\Below s w w':=by
 go_enter Tryz.func374,Tryz.ntmps374;go_wp2;refine jZ 0 (λa' w'=>∃ (m:Nat) (lq v:List Int) (u8 u9 u10 u11 u12 u13 u14 u15 u16 u17 u18 u19 u20 u21 u22 u23 u24 u25 u26 u27 u28 u29 u30 u31 u32 u33 u34 u35 u36 u37 u38 u39 u40 u41 u42 u43 u44 u45 u46 u47 u48 u49 u50 u51 u52 u53 u54:Value),a'={ tmps:=#[.slice (some ⟨s,z,none⟩) (q0+(k+2)) cu,.slice av (k+2) cv,undef,undef,.slice none 0 0,.int .i64 ((k:Int)+2),.int .i64 (m:Int),.slice (some ⟨w.heap.size,0,none⟩) q0 q0,u8,u9,u10,u11,u12,u13,u14,u15,u16,u17,u18,u19,u20,u21,u22,u23,u24,u25,u26,u27,u28,u29,u30,u31,u32,u33,u34,u35,u36,u37,u38,u39,u40,u41,u42,u43,u44,u45,u46,u47,u48,u49,u50,u51,u52,u53,u54],defers:=[] }/\m<=q0/\lQ lu (val H) q0 k m lq v/\At w' (some ⟨w.heap.size,0,none⟩) w.heap.size 0 lq/\dN w' w.heap.size 0 q0/\At w' (some ⟨s,z,none⟩) s z v/\dN w' s z (q0+(k+2))/\At w' av bv ov H/\w.heap.size < w'.heap.size/\Below s w w') (λa' _=>(intOf (a'.tmps.getD 6 undef)).toNat) rfl ?_ ?_
 ·intro hpass;go_wp2_with (at_make;refine cY rfl _ _ rfl q0 _ _ rfl rfl ?_;intro w1 an f hsz);go_step3
  have X:s < w.heap.size:=by
   rcases hu.lt with e | e
   ·subst e;simp at ad
   exact e
  have hI:lQ lu (val H) q0 k q0 (List.replicate q0 0) lu:=⟨by simp,ad,eE _,wu,by simp[val],hval⟩
  rename_i K hK;refine hK _ _ (hpass _ _ ⟨q0,List.replicate q0 0,lu,_,_,_,_,_,_,_,_,_,_,_,_,_,_,_,_,_,_,_,_,_,_,_,_,_,_,_,_,_,_,_,_,_,_,_,_,_,_,_,_,_,_,_,_,_,_,_,rfl,Nat.le_refl _,hI,an.at,an.free 0 q0,hu.keep f,dN.below f hfu X,hv.keep f,by omega,f.mono (Nat.le_of_lt X)⟩)
 rintro a' wr ⟨m,lq,v,u8,u9,u10,u11,u12,u13,u14,u15,u16,u17,u18,u19,u20,u21,u22,u23,u24,u25,u26,u27,u28,u29,u30,u31,u32,u33,u34,u35,u36,u37,u38,u39,u40,u41,u42,u43,u44,u45,u46,u47,u48,u49,u50,u51,u52,u53,u54,rfl,hm,hinv,hq,hfq,S,G,hv1,ah,hbl⟩;by_cases hm0:m=0
 ·subst hm0;go_wp2;rw[show ∀ J Q b w,Exit.jump 0 J Q .ret b w=Q .ret b w from λ_ _ _ _=>rfl];go_ret;exact⟨lq,v,rfl,hinv,hq,hfq,S,G,hbl⟩
 obtain⟨a,rfl⟩:∃ a,m=a+1:=⟨m - 1,by omega⟩
 have x:=hinv.DO;have t:=hinv.FH
 have hk1:a+(k+2)+1 - a=k+3:=by omega
 have aq:=dO wv;rw[U] at aq;obtain⟨y,hW2⟩:=hinv.fO (by omega) aq;have ap:=S.fO a (k+3);have hfwin:=G.fO (k:=a) (m:=k+3) (by omega)
 have r:((v.drop a).take (k+3)).length=k+3:=by simp;omega
 have j:Words ((v.drop a).take (k+3)):=(hinv.wu.drop a).take (k+3);have N:=λwx hx hy=>yD (some ⟨s,z+a,none⟩) (k+3) s (z+a) av k cv bv ov ((v.drop a).take (k+3)) H wx r U (by omega) j wv hx hy htop hW2
 have c:=λd nw=>hinv.step (d:=d) (nw:=nw) (by omega) aq
 have HH:=(show Hid _ from And.intro y (And.intro r (And.intro j (And.intro x (And.intro t c)))))
 clear hinv y r j x t c
 have e1:((a:Nat):Int)+1 - 1=a:=by omega
 generalize hL:(v.drop a).take (k+3)=L at *;go_wp2_with fail;rw[hk1];refine(N _ ap hv1).mono ?_
 rintro e w2 ⟨g,rfl,C,f⟩;obtain⟨y,r,j,x,t,c⟩:=HH.out
 have hsz2:w.heap.size < w2.heap.size:=Nat.lt_of_lt_of_le ah f.size
 have X:s < wr.heap.size:=by
  rcases S.lt with e | e
  ·subst e;simp at t
  exact e
 have HB2:=(show Hid _ from hbl.trans (f.mono (Nat.le_of_lt X)))
 clear hbl;have hq2:=hq.keep f;have V:=dN.below f hfq ah;have hu2:=S.keep f;have al:=dN.below f G X;have hv2:=hv1.keep f;have hc:=hq2.cell a (by omega);have hf:=V a (by omega);rw[Nat.zero_add] at hc hf;clear N ap;have hg0:=C.1;have hg1:=C.2.1;clear y r j x t c hq hfq S G hv1;go_wp2_with fail
 have Y:s≠w.heap.size:=by
  rcases hu.lt with e | e
  ·subst e;simp at ad
  omega
 have ak:s<=w.heap.size:=by
  rcases hu.lt with e | e
  ·subst e;simp at ad
  omega
 have hbv:bv≠w.heap.size:=by
  rcases hv.lt with e | e
  ·subst e;simp at U
  omega
 obtain⟨y,r,j,x,t,c⟩:=HH.out
 have u:Wr w.heap.size 0 q0 w2 (w2.setCell ⟨w.heap.size,a,none⟩ (.int .u64 g)):=(Wr.refl _ _ _ _).setCell (by omega) (by omega) _;have ar:=hq2.setCell (i:=a) (by omega) g;rw[Nat.zero_add] at ar;generalize w2.setCell ⟨w.heap.size,a,none⟩ (.int .u64 g)=w3 at *;have aj:=u.free V;have W:=u.free al;have hu3:=hu2.wr u (.inr Y);have hv3:=hv2.wr u (.inr hbv)
 have hsz3:w.heap.size < w3.heap.size:=by rw[u.size];exact hsz2
 have B:=hu3.fO a (k+3);rw[hL] at B;have F:=W.fO (k:=a) (m:=k+3) (by omega);refine(iZ (some ⟨s,z+a,none⟩) s (z+a) (k+3) (k+3) av bv ov (k+2) cv g L H w3 r U (by omega) (Nat.le_refl _) hcv hg0 hg1 j wv B F hv3 (.inr ab)).mono ?_
 rintro e w4 ⟨ga,rfl,ho0,ho1,nw,T,hnw,af,o,D⟩;have HB4:=(show Hid _ from(HB2.out.trans (u.below ak)).trans (o.below (Nat.le_refl _)))
 have I:=o.free aj;have P:=o.free W;have ac:=ar.wr o (.inr (Ne.symm Y));have hv4:=hv3.wr o (.inr ab);have hu4:=hu3.patch o af T (by omega)
 have ae:w.heap.size < w4.heap.size:=by rw[o.size];exact hsz3
 have hP:=fm (l:=v) (m:=nw) (k:=a)
 have hVB3:val H < 18446744073709551616 ^ (k+3):=by
  have:=pow_pos (k+2);rw[Int.pow_succ _ (k+2)];omega
 have E:=dO hnw;rw[T] at E;have A:=λZ=>Fy (Z:=Z) (n:=k+3) C hVB3 D E (aR j) ho0
 clear u V al hu2 hv2 hq2 aj W hu3 hv3 B F o ar;by_cases ho:ga=0
 ·subst ho;have hx:=(A 0).1 rfl;have hJ:=c g nw hg0 hg1 hnw T hx.1 hx.2;have HJ:=(show Hid _ from hJ)
  clear hJ hx A c HH y r j x t D E hP;go_wp2_with fail;go_step3;refine And.intro (Eq.refl 0) (And.intro ?_ ?_)
  ·exact⟨a,lq.set a g,patch v a nw,_,_,_,_,_,_,_,_,_,_,_,_,_,_,_,_,_,_,_,_,_,_,_,_,_,_,_,_,_,_,_,_,_,_,_,_,_,_,_,_,_,_,_,_,_,_,_,rfl,by omega,HJ.out,ac,I,hu4,P,hv4,ae,HB4.out⟩
  simp[intOf]
 have hg1':1<=g:=((A ((val nw+val H * 1) % 18446744073709551616 ^ (k+3))).2 ho rfl).1;have O:=ac.cell a (by simp;omega);have ao:=I a (by omega);rw[Nat.zero_add] at O ao;rw[dB,if_pos rfl] at O;have HN:=(show Hid _ from And.intro A (And.intro c (And.intro x (And.intro t (And.intro y (And.intro r (And.intro j (And.intro hP T))))))))
 clear A c HH y r j x t D E hP
 have hgw:IntKind.u64.wrap (g - 1)=g - 1:=by rw[IntKind.wrap_u64];omega
 have hob:(ga == 0)=false:=by simpa using ho
 go_wp2_with fail;obtain⟨A,c,x,t,y,r,j,hP,hnl'⟩:=HN.out
 have p:Wr w.heap.size 0 q0 w4 (w4.setCell ⟨w.heap.size,a,none⟩ (.int .u64 (g - 1))):=(Wr.refl _ _ _ _).setCell (by omega) (by omega) _;have hq5:=ac.setCell (i:=a) (by simp;omega) (g - 1);rw[Nat.zero_add,List.set_set] at hq5;generalize w4.setCell ⟨w.heap.size,a,none⟩ (.int .u64 (g - 1))=w5 at *;have am:=p.free I;have aa:=p.free P;have hu5:=hu4.wr p (.inr Y);have hv5:=hv4.wr p (.inr hbv);have ai:=af.wr p (.inr Y)
 have hsz5:w.heap.size < w5.heap.size:=by rw[p.size];exact ae
 have M:=aa.fO (k:=a) (m:=k+3) (by omega);refine(ey (some ⟨s,z+a,none⟩) s (z+a) (k+3) (k+3) av bv ov (k+2) cv 1 nw H w5 T U (Nat.le_refl _) hcv (by omega) (by omega) hnw wv ai M hv5 (.inr ab)).mono ?_
 rintro e w6 ⟨rfl,n2,ag,hnw6,hat6,q,R⟩;have HB6:=(show Hid _ from(HB4.out.trans (p.below ak)).trans (q.below (Nat.le_refl _)))
 have hfq6:=q.free am;have hfu6:=q.free aa;have hq6:=hq5.wr q (.inr (Ne.symm Y));have hv6:=hv5.wr q (.inr ab);have hu6:=hu5.patch q hat6 ag (by omega);rw[ub (by omega) (by omega)] at hu6
 have hsz6:w.heap.size < w6.heap.size:=by rw[q.size];exact hsz5
 have hx:=(A (val n2)).2 ho R;have HJ:=(show Hid _ from c (g - 1) n2 (by omega) (by omega) hnw6 ag hx.2.1 hx.2.2)
 clear hx A c HN y r j x t hP p hq5 am aa hu5 hv5 ai M q ac I hu4 hv4 P R O ao;go_wp2_with fail;go_step3;refine And.intro (Eq.refl 0) (And.intro ?_ ?_)
 ·exact⟨a,lq.set a (g - 1),patch v a n2,_,_,_,_,_,_,_,_,_,_,_,_,_,_,_,_,_,_,_,_,_,_,_,_,_,_,_,_,_,_,_,_,_,_,_,_,_,_,_,_,_,_,_,_,_,_,_,rfl,by omega,HJ.out,hq6,hfq6,hu6,hfu6,hv6,hsz6,HB6.out⟩
 simp[intOf]
end
section
variable {l L:List Int}{k s:Nat}
theorem DV(wl:Words l){n:Nat}(hn:l.length=n+1):nth l n * 18446744073709551616 ^ n<=val l/\val l < (nth l n+1) * 18446744073709551616 ^ n:=by
 have e1:=bN l n;have b:=aR (wl.take n);have a:=dO (wl.take n);rw[List.length_take,Nat.min_eq_left (by omega)] at a;rw[dQ (by omega),List.drop_of_length_le (show l.length<=n+1 by omega)] at e1
 have e2:(18446744073709551616:Int) ^ n * (nth l n+18446744073709551616 * val [])=nth l n * 18446744073709551616 ^ n:=by
  rw[show val []=0 from rfl];grind
 rw[e2] at e1;rw[Int.add_mul (nth l n) 1];omega
theorem fo{a b p:Int}(hp:0 < p)(h:a * p < b * p):a < b:=Int.lt_of_mul_lt_mul_right h (Int.le_of_lt hp)
theorem uP{a:List Int}(l:Words L)(hL:L.length=k+2)(d:Words a)(hv:a.length=k+3)(hs:s<=63)(e:val a=val L * 2 ^ s)(b0:9223372036854775808<=nth L (k+1) * 2 ^ s)(b1:nth L (k+1) * 2 ^ s < 18446744073709551616):aE a=k+2/\9223372036854775808<=nth a (k+1):=by
 obtain⟨t1,t2⟩:=DV (n:=k+1) l hL;obtain⟨o,m⟩:=DV (n:=k+2) d hv
 have b:(0:Int) < 2 ^ s:=Int.pow_pos (by decide);have f:=pow_pos (k+1);have j:=pow_pos (k+2)
 have c1:(nth L (k+1)+1) * 2 ^ s<=18446744073709551616:=by
  have h:(18446744073709551616:Int)=2 ^ (64 - s) * 2 ^ s:=by rw[<- Int.pow_add,show 64 - s+s=64 by omega];rfl
  rw[h] at b1 ⊢;have:=fo b b1;exact Int.mul_le_mul_of_nonneg_right (by omega) (Int.le_of_lt b)
 have c2:val a < 1 * 18446744073709551616 ^ (k+2):=by
  have k1:val L * 2 ^ s < (nth L (k+1)+1) * 18446744073709551616 ^ (k+1) * 2 ^ s:=Int.mul_lt_mul_of_pos_right t2 b
  have k2:(nth L (k+1)+1) * 2 ^ s * 18446744073709551616 ^ (k+1)<=18446744073709551616 * 18446744073709551616 ^ (k+1):=Int.mul_le_mul_of_nonneg_right c1 (Int.le_of_lt f);rw[Int.mul_right_comm] at k1;rw[Int.pow_succ _ (k+1),Int.mul_comm _ 18446744073709551616];omega
 have c3:nth a (k+2) < 1:=fo j (by omega)
 have g:nth a (k+2)=0:=by have:=d.nth (k+2);omega
 have e1:=bN a (k+2);rw[dQ (by omega),List.drop_of_length_le (show a.length<=k+2+1 by omega),g,show val []=0 from rfl] at e1;obtain⟨v1,v2⟩:=DV (n:=k+1) (d.take (k+2)) (by simp;omega);rw[df] at v1 v2
 have q:9223372036854775808 * 18446744073709551616 ^ (k+1)<=val a:=by
  have k1:nth L (k+1) * 18446744073709551616 ^ (k+1) * 2 ^ s<=val L * 2 ^ s:=Int.mul_le_mul_of_nonneg_right t1 (Int.le_of_lt b)
  have k2:9223372036854775808 * 18446744073709551616 ^ (k+1)<=nth L (k+1) * 2 ^ s * 18446744073709551616 ^ (k+1):=Int.mul_le_mul_of_nonneg_right b0 (Int.le_of_lt f);rw[Int.mul_right_comm] at k1;omega
 have p:9223372036854775808 < nth a (k+1)+1:=fo f (by omega);refine⟨jG (by omega) ?_ ?_,by omega⟩
 ·intro i hi;by_cases c:i=k+2
  ·subst c;exact g
  simp[nth,List.getElem?_eq_none (show a.length<=i by omega)]
 intro _;rw[show k+2 - 1=k+1 from rfl];omega
theorem Ec{N:Nat}(wl:Words l)(d:l.length=N)(c:Words L)(hL:L.length=k+2)(h1:1<=nth L (k+1))(g:k+2<=N) :
  val l * 2 ^ s < val L * 2 ^ s * 18446744073709551616 ^ (N+1 - (k+2)):=by
 obtain⟨t1,t2⟩:=DV (n:=k+1) c hL
 have e:(0:Int) < 2 ^ s:=Int.pow_pos (by decide);have f:=pow_pos (k+1);have b:=pow_pos (N+1 - (k+2));have a:=dO wl;rw[d] at a
 have k1:1 * 18446744073709551616 ^ (k+1)<=nth L (k+1) * 18446744073709551616 ^ (k+1):=Int.mul_le_mul_of_nonneg_right h1 (Int.le_of_lt f)
 have k2:18446744073709551616 ^ (k+1) * 18446744073709551616 ^ (N+1 - (k+2))<=val L * 18446744073709551616 ^ (N+1 - (k+2)):=Int.mul_le_mul_of_nonneg_right (by omega) (Int.le_of_lt b);rw[<- Int.pow_add,show k+1+(N+1 - (k+2))=N by omega] at k2;rw[Int.mul_right_comm];exact Int.mul_lt_mul_of_pos_right (by omega) e
theorem Cx{x V Q R P:Int}(f:0 < P)(j:0 < V)(e:x * P=Q * (V * P)+R)(r0:0<=R)(r1:R < V * P):Q=x / V/\R / P=x % V:=by
 have g:R=(x - Q * V) * P:=by rw[Int.sub_mul,e,Int.mul_assoc];omega
 have c:R / P=x - Q * V:=by rw[g,Int.mul_ediv_cancel _ (by omega)]
 have h:0<=x - Q * V:=by rw[<- c];exact Int.ediv_nonneg r0 (Int.le_of_lt f)
 have i:x - Q * V < V:=fo f (by rw[<- g];exact r1);have d:=(Int.ediv_emod_unique (a:=x) (b:=V) (r:=x - Q * V) (q:=Q) j).2 ⟨by rw[Int.mul_comm V];omega,h,i⟩;exact⟨d.1.symm,by rw[c];exact d.2.symm⟩
theorem Ce(ao:Option Addr)(n c b o:Nat)(ao':Option Addr)(n' c' b' o':Nat)(l d:List Int)(w:World)(hl:l.length=n)(hl':d.length=n')(hc:n<=c)(hc':n'<=c')(hbig:n<=1099511627776)(hbig':n'<=1099511627776)(wl:Words l)(y:Words d)(ha:At w ao b o l)(ha':At w ao' b' o' d)(hge:val d<=val l)(h2:2<=aE d) :
  Calls Tryz.prog 355 #[.slice ao n c,.slice ao' n' c'] w λe w'=>jH w w' e (val l) (val d) n n':=by
 have h0:=aR wl;have hn:=bO l
 have hn':=bO d
 have hNN:aE d<=aE l:=by
  by_cases c:aE l < aE d
  ·have:=dz wl y c;omega
  omega
 have t1:=bP ao' n' c' d w hl' hc' ha'.cells
 have x:=ha'.sub (aE d);rw[show d.take (aE d)=norm d from rfl] at x;have t2:=jQ ao n c b o ao' (aE d) (aE d) b' o' l (norm d) w hl (aK d) hc (Nat.le_refl _) (by omega) (by omega) wl y.norm ha x;rw[dn] at t2
 have hs0:0<=sgn (val l) (val d):=by unfold sgn;split<;>(try split)<;>omega
 have f:=aK d
 have D:=y.norm
 have g:=dn d
 have htop:nth (norm d) (aE d - 1)≠0:=by rw[gx];exact iM (by omega)
 generalize norm d=L' at *;generalize z:aE d=r at *;obtain⟨m,hm⟩:∃ m,r=m+1:=⟨r - 1,by omega⟩
 rw[show r - 1=m by omega] at htop
 have hmi:(r:Int) - 1=m:=by omega
 have hmN:m < r:=by omega
 have hmN':(m:Int) < r:=by omega
 have hty:=D.nth m;rcases x.loc with e | rfl
 ·subst e;simp at f;omega
 generalize sgn (val l) (val d)=sg at *;have H1:=(show Hid _ from And.intro g (And.intro hm (And.intro f (And.intro hge (And.intro hl z)))))
 clear g hm f z;go_enter Tryz.func355,Tryz.ntmps355;go_wp2_with fail;refine t1.mono ?_
 rintro e w1 ⟨rfl,rfl⟩;go_wp2_with fail;refine t2.mono ?_
 rintro e w2 ⟨rfl,q⟩;have hcy:=(x.keep q).cell m (by rw[H1.out.2.2.1];exact hmN);clear t1 t2;go_wp2_with fail;refine(GH (nth L' m) w2 hty.2).mono ?_
 rintro e w3 ⟨s,rfl,hs,HS,rfl⟩;have ta:=bP ao n c l w3 hl hc (ha.keep q).cells;have hsa:=(ha.keep q).sub (aE l);rw[show l.take (aE l)=norm l from rfl] at hsa;have Q:=aK l;have aa:=wl.norm;have HV:=(show Hid _ from dn l)
 rw[hl] at hn;generalize norm l=L at *;generalize aE l=N at *;clear hcy;go_wp2_with fail;refine ta.mono ?_
 rintro e w4 ⟨rfl,rfl⟩;clear ta;go_wp2_with fail;refine(oO ao N N b o s L w4 Q (Nat.le_refl _) hs aa hsa).mono ?_
 rintro e w5 ⟨lu,rfl,hlu,hwu,U,hfu,W,hvu,P⟩;have hs5:=(x.keep q).keep P;have HU:=(show Hid _ from And.intro hlu (And.intro hvu Q))
 clear hlu hvu Q;go_wp2_with fail;refine(oO (some ⟨b',o',none⟩) r r b' o' s L' w5 H1.out.2.2.1 (Nat.le_refl _) hs D hs5).mono ?_
 rintro e w6 ⟨O,rfl,hlv,hwv,I,hfv,hszv,G,E⟩;obtain⟨k,hk⟩:∃ k,k+2=r:=⟨r - 2,by omega⟩
 obtain⟨q0,v⟩:∃ q0,q0+(k+2)=N+1:=⟨N+1 - (k+2),by omega⟩
 obtain⟨g,hm,f,hge',hl2,z⟩:=H1.out
 have hmk:m=k+1:=by omega
 have C:=uP (k:=k) D (by omega) hwv (by omega) hs G (by rw[<- hmk];exact HS.out.1) (by rw[<- hmk];exact HS.out.2);have K:=Ec (s:=s) (N:=N) (k:=k) (l:=L) (L:=L') aa HU.out.2.2 D (by omega) (by rw[<- hmk];omega) (by omega);rw[<- HU.out.2.1,<- G,show N+1 - (k+2)=q0 by omega] at K;have tv:=bP (some ⟨w5.heap.size,0,none⟩) (r+1) (r+1) O w6 hlv (Nat.le_refl _) I.cells;rw[C.1,hk] at tv;have R:=I.sub (aE O);rw[show O.take (aE O)=norm O from rfl] at R;have t:=aK O;rw[C.1] at t;have M:=nC w4.heap.size 0 (N+1) (some ⟨w5.heap.size,0,none⟩) k q0 r w5.heap.size 0 lu (norm O) w6 (by rw[v];exact HU.out.1) t (by omega) (by omega) (by omega) (by omega) hwu hwv.norm (U.keep E) (by rw[v];exact dN.below E hfu W) R (by omega) (by rw[gx];exact C.2) (by rw[dn];exact K);rw[v,hk,dn] at M;have HK:=(show Hid _ from And.intro hk (And.intro v (And.intro G hmk)))
 have hq0n:q0<=N:=by omega
 clear g hm f z hk v hmk C K t G hl2;go_wp2_with fail;refine tv.mono ?_
 rintro e w7 ⟨rfl,rfl⟩;clear tv;go_wp2_with fail;refine M.mono ?_
 rintro e w8 ⟨S,lr,rfl,A,T,hfq,hatr,hfr,hbd⟩;clear M
 have B:lr.length=N+1:=by rw[A.FH];exact HK.out.2.1
 have HD:=(show Hid _ from A)
 have H:=A.wu;clear A;go_wp2_with fail;refine(yc (some ⟨w4.heap.size,0,none⟩) w4.heap.size 0 (N+1) (N+1) s lr w8 B (by omega) (Nat.le_refl _) hs H hatr hfr).mono ?_
 rintro e w9 ⟨rfl,lz,u,hwz,J,p,F⟩;have V:=T.wr p (.inr (by omega));have hfq9:=p.free hfq;have X:=p.free hfr;have tq:=bP (some ⟨w7.heap.size,0,none⟩) q0 q0 S w9 HD.out.DO (Nat.le_refl _) V.cells;have tr:=bP (some ⟨w4.heap.size,0,none⟩) (N+1) (N+1) lz w9 u (Nat.le_refl _) J.cells;have hz1:=bO lz;have hz2:=bO S;rw[HD.out.DO] at hz2;rw[u] at hz1;have HX:=(show Hid _ from And.intro B (And.intro u F))
 clear B u F;go_wp2_with fail;refine tq.mono ?_
 rintro e w10 ⟨rfl,rfl⟩;go_wp2_with fail;refine tr.mono ?_
 rintro e w11 ⟨rfl,rfl⟩;clear tq tr;go_wp2;go_ret3;have hsq:=V.sub (aE S);have hsz:=J.sub (aE lz);have j:=q.size;have hsz5:=P.size;have hsz7:=E.size
 have HB:BW w1 w11:=(((q.trans (P.mono j)).trans (E.mono (by omega))).trans (hbd.mono j)).trans (p.below j);obtain⟨g,hm,f,hge',hl2,z⟩:=H1.out;obtain⟨B,u,F⟩:=HX.out;have he:=HD.out.eq;have Z:=HD.out.lt;rw[HU.out.2.1,HV.out,HK.out.2.2.1,g,Int.pow_zero,Int.one_mul,List.drop_zero] at he;rw[HK.out.2.2.1,g,Int.pow_zero,Int.mul_one] at Z
 have hV:0 < val d:=by
  have:val d≠0:=λe=>by have:=(cL y).2 e;omega
  have:=aR y;omega
 have Y:=Cx (fT s hs).1 hV he (aR H) Z;have i1:=cU HD.out.wq;have i2:=cU hwz;rw[Y.1] at i1;rw[F,Y.2] at i2;exact⟨_,_,norm S,norm lz,rfl,dL.of (aK S).symm (Nat.le_refl _) (by omega) hsq (λi hi=>hfq9 i (by omega)),dL.of (aK lz).symm (Nat.le_refl _) j hsz (λi hi=>X i (by omega)),i1,i2,by rw[aK];omega,by rw[aK];omega,HB⟩
theorem F7(ao:Option Addr)(n c b o:Nat)(ao':Option Addr)(n' c' b' o':Nat)(l d:List Int)(w:World)(k:l.length=n)(i:d.length=n')(hc:n<=c)(h:n'<=c')(hbig:n<=1099511627776)(a:n'<=1099511627776)(wl:Words l)(f:Words d)(m:At w ao b o l)(g:At w ao' b' o' d)(j:val d≠0) :
  CP 355 #[.slice ao n c,.slice ao' n' c'] w λe w'=>jH w w' e (val l) (val d) n n':=by
 by_cases q:val l < val d
 ·exact div_lt ao n c b o ao' n' c' b' o' l d w k i hc h hbig a wl f m g q
 have r:aE d≠0:=λe=>j ((cL f).1 e)
 by_cases p:aE d=1
 ·exact div_one ao n c b o ao' n' c' b' o' l d w k i hc h hbig a wl f m g (by omega) p
 exact Ce ao n c b o ao' n' c' b' o' l d w k i hc h hbig a wl f m g (by omega) (by omega)
theorem vy(ao:Option Addr)(n c b o:Nat)(ao':Option Addr)(n' c' b' o':Nat)(ad:Option Addr)(g G M L:Nat)(l p i:List Int)(w:World)(S:l.length=n)(H:p.length=n')(z:i.length=g)(hc:n<=c)(F:n'<=c')(A:g<=G)(hbig:n<=274877906944)(K:n'<=274877906944)(E:g<=274877906944)(wl:Words l)(D:Words p)(wd:Words i)(U:At w ao b o l)(x:At w ao' b' o' p)(C:At w ad M L i)(t:val i≠0) :
  Calls Tryz.prog 321 #[.slice ao n c,.slice ao' n' c',.slice ad g G] w λe w'=>jH w w' e (val l * val p) (val i) (n+n') g:=by
 go_enter Tryz.func321,Tryz.ntmps321;go_wp2_with fail;refine(qa ao n c b o ao' n' c' b' o' l p w S H hc F (by omega) (by omega) wl D U x).mono ?_
 rintro e W ⟨v,r,rfl,s,N,hlen,f⟩;obtain⟨Q,R,or',X,rfl,y,Y,m,_⟩:=s.is;have j:=C.keep f;have d:=f.size;have t2:=F7 Q r.length X R or' ad g G M L r i W rfl z y A (by omega) (by omega) N.1 wd m j t;rw[N.2.2] at t2;go_wp2_with fail;refine t2.mono ?_
 rintro e Z ⟨q,u,O,V,rfl,hq,hu,B,J,P,T,I⟩;go_wp2;go_ret3;exact⟨q,u,O,V,rfl,hq.mono d,hu.mono d,B,J,by omega,by omega,f.trans (I.mono d)⟩
end
section
variable {w:World}{B:Nat}{v:Value}{l l1:List Int}{c m c0:Int}
def hH(w:World)(B:Nat)(v:Value)(l:List Int):Prop:=w.ownsRow B 22 1 v l.length (l.map (Value.int .u64))
theorem hH.open(h:hH w B v l):∃ ao c,v=.slice ao l.length c/\l.length<=c/\c<=maxLen/\∃ g,(l=[]\/ao=some ⟨g,0,none⟩)/\B<=g/\At w ao g 0 l/\dN w g 0 l.length:=by
 obtain⟨_,a⟩:=h;rcases a with⟨rfl,h0⟩ | ⟨g,cap,cur,rfl,hB,hh,hle,hmx,hsz,htk⟩
 ·have e:l=[]:=List.eq_nil_of_length_eq_zero h0;subst e;exact⟨none,0,rfl,Nat.le_refl _,by decide,B,.inl rfl,Nat.le_refl _,⟨.inl rfl,λi hi=>by simp at hi⟩,λi hi=>by simp at hi⟩
 refine⟨some ⟨g,0,none⟩,cap,rfl,hle,hmx,g,.inr rfl,hB,⟨.inr rfl,λi hi=>?_⟩,λi hi=>?_⟩
 ·have e:cur.toList[i]?=some (.int .u64 (nth l i)):=by
   have b:(cur.toList.take (l.length * 1))[i]?=some (.int .u64 (nth l i)):=by
    rw[htk,List.getElem?_map,List.getElem?_eq_getElem hi,cF hi];rfl
   rwa [Nat.mul_one,List.getElem?_take_of_lt hi] at b
  simp only[World.cell?,hh];simpa using e
 simp[World.frozen?,hh]
theorem hH.setCell(h:hH w B v l){c g:Nat}(hv:v=.slice (some ⟨g,0,none⟩) l.length c){i:Nat}(hi:i < l.length)(x:Int):hH (w.setCell ⟨g,0+i,none⟩ (.int .u64 x)) B v (l.set i x):=by
 obtain⟨_,a⟩:=h;refine⟨by simp,?_⟩;rcases a with⟨rfl,h0⟩ | ⟨g',cap,cur,rfl,hB,hh,hle,hmx,hsz,htk⟩
 ·omega
 simp only[Value.slice.injEq,Option.some.injEq,Addr.mk.injEq,and_true,true_and] at hv;obtain⟨rfl,rfl⟩:=hv;right;refine⟨g',cap,cur.setIfInBounds i (.int .u64 x),by simp,hB,?_,by simpa using hle,hmx,by simpa using hsz,?_⟩
 ·simp only[World.setCell,Array.getElem?_modify,if_true,hh,Nat.zero_add];simp
 rw[List.length_set,Nat.mul_one] at *;rw[Array.toList_setIfInBounds,List.map_set,<- htk,List.take_set]
theorem hH.new{w':World}(h:hH w' w.heap.size v l):dL w w' v l:=by
 obtain⟨ao,c,rfl,hc,_,g,_,hg,hat,hf⟩:=h.open;exact⟨ao,g,0,c,rfl,hc,hg,hat,hf⟩
structure nQ(l:List Int)(m c0:Int)(k:Nat)(l1:List Int)(c:Int):Prop where
 len:l1.length=l.length
 words:Words l1
 high:∀ i,k<=i->nth l1 i=nth l i
 val:Lim.val (l1.take k)+18446744073709551616 ^ k * c=Lim.val (l.take k) * m+c0
theorem nQ.step{a c':Int}{k:Nat}(h:nQ l m c0 k l1 c)(hk:k < l.length)(b:0<=a)(d:a < 18446744073709551616)(e:a+18446744073709551616 * c'=nth l k * m+c):nQ l m c0 (k+1) (l1.set k a) c':=by
 have f:=h.len;refine⟨by simp[f],h.words.set k b d,λi hi=>by rw[dB,if_neg (by omega)];exact h.high i (by omega),?_⟩;have g:=h.val;rw[du (by simp[f];omega),du hk,List.take_set_of_le (Nat.le_refl _),dB,if_pos rfl,Int.pow_succ];have:18446744073709551616 ^ k * (a+18446744073709551616 * c')=18446744073709551616 ^ k * (nth l k * m+c):=by rw[e]
 grind
theorem xo(n:Nat)(w:World)(hn:n<=19):Calls Tryz.prog 275 #[.int .i64 n] w λe w'=>e=.returned (.int .u64 (10 ^ n))/\w'=w:=by
 go_enter Tryz.func275,Tryz.ntmps275;go_wp2;go_loop [3,5] (λg d=>∃ (k:Nat) (p:Int),k<=n/\d=.int .i64 k/\g=.int .u64 p/\Hid (p=10 ^ k)) (λ_ d=>n - (intOf d).toNat)
 case atStart=>exact⟨0,1,Nat.zero_le _,rfl,rfl,rfl⟩
 case round =>
  obtain⟨k,p,hk,rfl,rfl,b⟩:=hrel;by_cases f:k < n
  ·have j:(1:Int)<=p:=by rw[b.out]; exact Int.pow_pos (by decide)
   have i:p<=1000000000000000000:=by
    rw[b.out];have:(10:Nat) ^ k<=10 ^ 18:=Nat.pow_le_pow_right (by decide) (by omega)
    have e:((10 ^ k:Nat):Int)=(10:Int) ^ k:=by rw[Int.natCast_pow];rfl
    rw[<- e];omega
   go_wp2;go_round
   case rel=>exact⟨k+1,p * 10,by omega,by go_num,rfl,by show _=_;rw[Int.pow_succ,<- b.out]⟩
   case measure=>simp[intOf];omega
  have c:k=n:=by omega
  subst c;go_wp2;go_ret;exact⟨lI b.out,rfl⟩
theorem yO(hc:c≠0):aE (l ++ [c])=(l ++ [c]).length:=by
 apply jG (Nat.le_refl _)
 ·intro i hi;exact fW (h:=hi)
 intro _;rw[List.length_append,List.length_singleton,Nat.add_sub_cancel,dM (h:=Nat.le_refl _),Nat.sub_self,dJ];exact hc
theorem uA{r:List Int}(wl:Words l)(wr:Words r)(hlen:r.length=l.length)(hv:val r=val l * m+c)(hm:0 < m)(hc:0<=c)(hn:aE l=l.length):aE r=r.length:=by
 have g:=bO r;by_cases e:l.length=0
 ·omega
 have d:=iw wl;have f:=ij wr;have b:=aR wl
 have h:val l * 1<=val l * m:=Int.mul_le_mul_of_nonneg_left (by omega) b;by_cases a:aE r < r.length
 ·have:=kh (show aE r<=aE l - 1 by omega);omega
 omega
theorem nQ.fin(h:nQ l m c0 l.length l1 c):Lim.val (l1 ++ [c])=Lim.val l * m+c0:=by
 have a:=h.val;rw[List.take_of_length_le (by rw[h.len];exact Nat.le_refl _),List.take_of_length_le (Nat.le_refl _)] at a;rw[dY,eG,h.len];exact a
theorem o9(B:Nat)(v:Value)(l:List Int)(m c0:Int)(w:World)(hB:B≤w.heap.size)(b:hH w B v l)(wl:Words l)(D:0≤m)(W:m < 18446744073709551616)(hbig:l.length≤1099511627776:=by omega)(E:0≤c0:=by decide)(Y:c0 < 18446744073709551616:=by decide) :
    Calls Tryz.prog 274 #[v,.int .u64 m,.int .u64 c0] w λe w'=>∃ v' r,e=.returned v'∧hH w' B v' r∧Words r∧val r=val l * m+c0∧r.length≤l.length+1∧(aE l=l.length→0 < m→aE r=r.length)∧Below B w w':=by
  obtain⟨i0,hi,P,V,U⟩:= info_parts kO;obtain⟨Z,cap,rfl,z,hmax,g,p,hBg,_,_⟩:= b.open
  have S:∃ n,n=l.length:=⟨_,rfl⟩;obtain⟨n,hn⟩:= S
  have L:n≤l.length:=by omega
  have hn2:l.length≤n:=by omega
  have s:Hid (n=l.length):=hn;rw[← hn] at b hbig z ⊢;clear hn;go_enter Tryz.func274,Tryz.ntmps274;go_wp2;go_loopw [2,13] (λtc R wr=>∃ (k:Nat) (c:Int) (l1:List Int),k≤n∧R=.int .i64 k∧tc=.int .u64 c∧0≤c∧c < 18446744073709551616∧nQ l m c0 k l1 c∧hH wr B (.slice Z n cap) l1∧Below B w wr) (λ_ R _=>n - (intOf R).toNat)
  case atStart=>exact⟨0,c0,l,Nat.zero_le _,rfl,rfl,E,Y,⟨rfl,wl,λ_ _=>rfl,by simp[val]⟩,b,Below.refl _ _⟩
  case round =>
    clear b;obtain⟨k,c,l1,hk,rfl,rfl,q,F,hinv,b,d⟩:= hrel;have f:=hinv.len;by_cases hlt:k < n
    · rcases p with e | rfl
      · subst e;simp at L;omega
      obtain⟨ao',c',e',_,_,N,o,G,J,I⟩:= b.open;simp only[Value.slice.injEq] at e';obtain⟨rfl,e1,rfl⟩:= e'
      have Q:N=g:=by
        rcases o with e | e
        · subst e;simp at e1;omega
        · simpa using e.symm
      subst Q;have A:=J.cell k (by omega);have T:=I k (by omega);rw[Nat.zero_add] at A T;rw[hinv.high k (Nat.le_refl _)] at A;obtain⟨O,X⟩:= wl.nth k
      have HI:Hid (nQ l m c0 k l1 c):=hinv
      have HM:Hid (hH wr B (.slice (some ⟨N,0,none⟩) n cap) l1):=b
      have HB:Hid (Below B w wr):=d
      have HE:Hid (n=l1.length):=e1;clear hinv b d J I o e1 wl
      go_wp2_with (first
        | (go_at_call 325;refine(mj _ _ O X D W _).mono ?_;rintro e w' ⟨M,lo,rfl,h1,h2,h3,h4,h5,rfl⟩)
        | simp only[rZ _ _ h3 q])
      have hxm:nth l k * m≤340282366920938463426481119284349108225:=by
        have:=Int.mul_le_mul (show nth l k≤18446744073709551615 by omega) (show m≤18446744073709551615 by omega) D (by decide);simpa using this
      have h5':=h5.out
      have e5:(lo+c) % 18446744073709551616+18446744073709551616 * (M+(lo+c) / 18446744073709551616)=nth l k * m+c:=by omega
      have HN:=HM.out.setCell (c:=cap) (g:=N) (by rw[← HE.out]) (i:=k) (by omega) ((lo+c) % 18446744073709551616);rw[Nat.zero_add] at HN;go_roundw
      case rel=>exact⟨k+1,_,_,by omega,by go_num,rfl,by omega,by omega,HI.out.step (by omega) (Int.emod_nonneg _ (by decide)) (Int.emod_lt_of_pos _ (by decide)) e5,HN,HB.out.setCell G _⟩
      case measure=>simp[intOf];omega
    · have K : k = n := by omega
      subst K
      have HF:Hid (val (l1 ++ [c])=val l * m+c0):=by rw[s.out] at hinv;exact hinv.fin
      have t:=hinv.words;by_cases hc:c=0
      · subst hc
        go_wp2;go_ret
        have C:val l1=val l * m+c0:=by rw[← HF.out,dY];simp[val]
        refine⟨_,l1,rfl,b,t,C,by omega,λh1 h2=>uA wl t (by omega) C h2 E (by omega),d⟩
      · have hcb : (c != 0) = true := by rw[bne_iff_ne]; exact hc
        have H:wr.ownsRow B 22 1 (.slice Z k cap) k (l1.map (Value.int .u64)):=by have:=b;unfold hH at this;rwa [f,← s.out] at this
        have hsz:=d.size;go_wp2_with (at_builtin;refine wpList_append_own _ rfl _ _ 53 rfl B 22 i0 (.int .u64 0) 1 8 gB hi P V U rfl (by decide) _ _ _ rfl (H.alloc _) ⟨wr.heap.size,0,none⟩ 1 1 [.int .u64 c] rfl rfl ?c1 ?c2 ?c3 ?c4 ?c5 ?_)
        case c1=>exact cell_one_new _ _ _
        case c2=>intro u hu;simp at hu;subst hu;rfl
        case c3=>unfold maxLen;omega
        case c4=>omega
        case c5=>simp;omega
        intro v' w1 y x _;go_wp2;go_ret
        have hM:hH w1 B v' (l1 ++ [c]):=by
          unfold hH;rw[List.length_append,f,← s.out,List.map_append];exact y
        refine⟨_,l1 ++ [c],rfl,hM,t.append (Words.cons q F Words.nil),HF.out,by simp;omega,λ_ _=>yO hc,?_⟩
        exact(d.alloc (by omega) _).grown x (by simp; omega) (by
          intro g1 j;rcases p with e | rfl
          · subst e
            rcases b.2 with⟨e2,_⟩ | ⟨g2,cap2,cur2,e2,hB2,_⟩
            · rw[e2] at j;simp[Value.ownBlock] at j
            · rw[e2] at j;simp[Value.ownBlock] at j;omega
          · simp[Value.ownBlock] at j;omega)
end
section
variable {w:World}{l:List Int}{ops:Array Oper}{rest:List Oper}
theorem hH.cell{B g n c:Nat}(h:hH w B (.slice (some ⟨g,0,none⟩) n c) l){i:Nat}(hi:i < l.length):w.cell? ⟨g,i,none⟩=some (.int .u64 (nth l i))/\w.frozen? ⟨g,i,none⟩=false:=by
 obtain⟨p,o,e,_,_,m,a,_,d,b⟩:=h.open;simp only[Value.slice.injEq] at e;obtain⟨rfl,_,_⟩:=e
 have k:m=g:=by
  rcases a with e | e
  ·subst e;simp at hi
  simpa using e.symm
 subst k;have j:=d.cell i hi;have f:=b i hi;rw[Nat.zero_add] at j f;exact⟨j,f⟩
theorem xP{o:Oper}{a:Act}{Q:Exit->Act->World->Prop}(g:o.guard=none)(l c:Operand)(d:o.op=Op.makeSlice 53 l c)(n m:Nat)(L C:Int)(k:a.eval l=.int .i64 L)(hc:a.eval c=.int .i64 C)(hL:L=(n:Int))(hC:C=(m:Int))(e:n<=m)(hn:m<=17592186044416)(h:∀ w',hH w' w.heap.size (.slice (some ⟨w.heap.size,0,none⟩) n m) (List.replicate n 0)->BW w w'->w'.heap.size=w.heap.size+1->wpList Tryz.prog ops Q rest (a.put o.dst (.slice (some ⟨w.heap.size,0,none⟩) n m)) w') :
  wpList Tryz.prog ops Q (o :: rest) a w:=by
 obtain⟨i,hi,j,p,hb⟩:=info_parts kO;refine wpList_plain g λK f=>?_
 have b:=run_make (P:=Tryz.prog) w 53 22 i (.int .u64 0) gB hi j .i64 .i64 (n:Int) (m:Int) (by omega) (by omega) (by rw[hb];omega) (by omega);subst hL;subst hC;unfold Oper.wp;simp only[execOp,d,k,hc];simp[b,Result.andThen];refine f _ _ (h _ ⟨by simp,.inr ⟨w.heap.size,m,((List.replicate m 0).map (Value.int .u64)).toArray,by simp,Nat.le_refl _,?_,by simpa using e,by unfold maxLen;omega,by simp,?_⟩⟩ ?_ ?_)
 ·show (w.heap.push _)[w.heap.size]?=_
  rw[Array.getElem?_push_size,p,Nat.mul_one,rX]
 ·simp;omega
 ·exact(Below.refl _ _).alloc (Nat.le_refl _) _
 simp
theorem xI(n:Nat)(w:World)(hn:n<=4096) :
  Calls Tryz.prog 230 #[.int .i64 n] w λe w'=>∃ v r,e=.returned (.tuple #[v,.int .i64 0])/\dL w w' v r/\IsN r (10 ^ n)/\r.length<=n+2/\BW w w':=by
 obtain⟨q,hq⟩:∃ q:Nat,q=n / 19:=⟨_,rfl⟩
 obtain⟨t,K⟩:∃ t:Nat,t=n % 19:=⟨_,rfl⟩
 have S:(n:Int) / 19=q:=by omega
 have R:(n:Int) % 19=t:=by omega
 have M:t < 19:=by omega
 have N:Hid (n=19 * q+t):=by show _=_;omega
 have O:q<=n:=by omega
 clear hq K
 have Q:decide ((n:Int) < 0)=false:=by simp
 have U:decide (4096 < (n:Int))=false:=by simp;omega
 go_enter Tryz.func230,Tryz.ntmps230;go_wp2_with (at_make;refine xP rfl _ _ rfl 1 (q+1) _ _ rfl rfl rfl (by omega) (by omega) (by omega) ?_;intro Y b m f;have G:=b.cell (i:=0) (by simp);obtain⟨F,H⟩:=G);have x:=b.setCell (c:=q+1) (g:=w.heap.size) rfl (i:=0) (by simp) 1;rw[show (List.replicate 1 (0:Int)).set 0 1=[1] from rfl,Nat.add_zero] at x;have E:=m.setCell (p:=⟨w.heap.size,0,none⟩) (Nat.le_refl _) (.int .u64 1);clear b m F H;go_loopw [4,19] (λtz I wr=>∃ (k:Nat) (l:List Int),k<=q/\I=.int .i64 k/\hH wr w.heap.size tz l/\Words l/\Hid (aE l=l.length)/\Hid (val l=10 ^ (19 * k))/\l.length<=k+1/\BW w wr) (λ_ I _=>q - (intOf I).toNat)
 case atStart=>exact⟨0,[1],Nat.zero_le _,rfl,x,Words.cons (by decide) (by decide) Words.nil,rfl,rfl,by simp,E⟩
 case round =>
  clear x E f;obtain⟨k,l,hk,rfl,hm,wl,D,hv,hlen,A⟩:=hrel;have f:=A.size;by_cases P:k < q
  ·go_wp2_with (go_at_call 274;refine(o9 w.heap.size _ l 10000000000000000000 0 _ f hm wl (by decide) (by decide)).mono ?_;rintro e V ⟨J,r,rfl,u,o,j,z,y,d⟩);have e1:=hv.out;have e2:=y D.out (by decide);go_roundw
   case rel=>exact⟨k+1,r,by omega,by go_num,u,o,e2,by show _=_;rw[j,e1,Int.add_zero,show 19 * (k+1)=19 * k+19 from by omega,Int.pow_add];rfl,by omega,A.trans d⟩
   case measure=>simp[intOf];omega
  have B:k=q:=by omega
  have T:Hid (k=q):=B;clear B
  have C:(0:Int) < 10 ^ t:=Int.pow_pos (by decide)
  have s:(10:Int) ^ t < 18446744073709551616:=by
   have:(10:Nat) ^ t<=10 ^ 18:=Nat.pow_le_pow_right (by decide) (by omega)
   have e:((10 ^ t:Nat):Int)=(10:Int) ^ t:=by rw[Int.natCast_pow];rfl
   have e2:(10:Nat) ^ 18=1000000000000000000:=by decide
   omega
  have L:=xo t wr (by omega);generalize hp:(10:Int) ^ t=p at *
  have W:Hid ((10:Int) ^ t=p):=hp;clear hp;go_wp2_with fail;refine L.mono ?_
  rintro e X ⟨rfl,rfl⟩;go_wp2_with fail;refine(o9 w.heap.size _ l p 0 _ f hm wl (by omega) s).mono ?_
  rintro e V ⟨J,r,rfl,u,o,j,z,y,d⟩;have e1:=hv.out;have e2:=y D.out C
  have e3:val r=10 ^ n:=by rw[j,e1,Int.add_zero,N.out,Int.pow_add,W.out,T.out]
  clear j;go_wp2;go_ret2;exact⟨J,r,rfl,u.new,⟨o,e2,e3⟩,by omega,A.trans d⟩
end
def eqB (l l':List Int):Bool:=decide (l=l')
theorem AX {l l':List Int} (h:l=l'):eqB l l'=true:=by simp[eqB,h]
theorem pA {l l':List Int} (h:l≠l'):eqB l l'=false:=by simp[eqB,h]
theorem retB {a b:Bool} (h:a=b):Ending.returned (.bool a)=.returned (.bool b):=by rw[h]
section
variable {w w':World}{ao:Option Addr}{b o:Nat}{l:List Int}
structure AtB(w:World)(ao:Option Addr)(b o:Nat)(l:List Int):Prop where
 loc:l=[]\/ao=some ⟨b,o,none⟩
 cell:∀ i,i < l.length->w.cell? ⟨b,o+i,none⟩=some (.int .u8 (nth l i))
theorem AtB.lt(k:AtB w ao b o l):l=[]\/b < w.heap.size:=by
 cases l with
 | nil=>exact .inl rfl
 | cons x l=>exact .inr (aC (k.cell 0 (by simp)))
theorem AtB.keep(h:BW w w')(k:AtB w ao b o l):AtB w' ao b o l :=
 ⟨k.loc,λi hi=>by
  rcases k.lt with e | e
  ·subst e;simp at hi
  rw[h.cell (p:=⟨b,o+i,none⟩) e];exact k.cell i hi⟩
theorem AtB.wr{n:Nat}(h:Wr b o n w w'){b' o':Nat}(k:AtB w ao b' o' l)(hb:l=[]\/b'≠b):AtB w' ao b' o' l :=
 ⟨k.loc,λi hi=>by
  rcases hb with e | e
  ·subst e;simp at hi
  rw[h.other e];exact k.cell i hi⟩
theorem AtB.setCell(k:AtB w ao b o l){i:Nat}(hi:i < l.length)(x:Int):AtB (w.setCell ⟨b,o+i,none⟩ (.int .u8 x)) ao b o (l.set i x) :=
  ⟨by rcases k.loc with e | e
      · subst e;simp at hi
      · exact .inr e,λj g=>by
    rw[List.length_set] at g;have hc:=k.cell j g;rw[dB (hk:=hi)];have a:=k.cell i hi;simp only[World.cell?,World.setCell,Array.getElem?_modify,if_true] at hc a ⊢
    cases hh:w.heap[b]? with
    | none=>rw[hh] at hc;simp at hc
    | some ob =>
      rw[hh] at hc a
      cases ob with
      | cells c e f =>
        simp at hc a ⊢;rw[Array.getElem?_setIfInBounds];by_cases e:j=i
        · subst e
          obtain⟨d,_⟩:= Array.getElem?_eq_some_iff.1 a;simp[d]
        · rw[if_neg (by omega),if_neg e];exact hc
      | _=>simp at hc⟩
structure EG(w w':World)(v:Value)(l:List Int):Prop where
 is:∃ ao b o c,v=.slice ao l.length c/\l.length<=c/\w.heap.size<=b/\AtB w' ao b o l/\dN w' b o l.length
def aJ(l:List Int):Prop:=∀ x∈l,0<=x/\x < 256
theorem aJ.nth(h:aJ l)(i:Nat):0<=nth l i/\nth l i < 256:=by
 by_cases hi:i < l.length
 ·exact h _ (wT hi)
 rw[fW];decide
def bJ:List Int->Int
 | []=>0
 | x :: l=>x * 256 ^ l.length+bJ l
theorem bL(h:aJ l):0<=bJ l/\bJ l < 256 ^ l.length:=by
 induction l with
 | nil=>simp[bJ]
 | cons x l ih =>
  have e:=ih (λy hy=>h y (List.mem_cons_of_mem _ hy));have b:=h x List.mem_cons_self
  have a:(0:Int) < 256 ^ l.length:=Int.pow_pos (by decide)
  have c:0<=x * 256 ^ l.length:=Int.mul_nonneg b.1 (Int.le_of_lt a)
  have d:x * 256 ^ l.length<=255 * 256 ^ l.length:=Int.mul_le_mul_of_nonneg_right (by omega) (Int.le_of_lt a);rw[bJ,List.length_cons,Int.pow_succ];omega
def IsB(l:List Int)(n:Int):Prop:=aJ l/\(l≠[]->nth l 0≠0)/\bJ l=n
theorem mS:∀ {a b:List Int},aJ a->aJ b->a.length=b.length->bJ a=bJ b->a=b
 | [],[],_,_,_,_=>rfl
 | x :: a,y :: b,ha,hb,hl,hv=>by
  have ha':aJ a:=λz g=>ha z (List.mem_cons_of_mem _ g)
  have f:aJ b:=λz g=>hb z (List.mem_cons_of_mem _ g)
  have d:a.length=b.length:=by simpa using hl
  have i:=bL ha';have j:=bL f;rw[bJ,bJ,d] at hv;rw[d] at i
  have h:(0:Int) < 256 ^ b.length:=Int.pow_pos (by decide)
  have e:x=y:=by
   rcases Int.lt_trichotomy x y with c | c | c
   ·have:(x+1) * 256 ^ b.length<=y * 256 ^ b.length:=Int.mul_le_mul_of_nonneg_right (by omega) (Int.le_of_lt h);rw[Int.add_mul] at this;omega
   ·exact c
   have:(y+1) * 256 ^ b.length<=x * 256 ^ b.length:=Int.mul_le_mul_of_nonneg_right (by omega) (Int.le_of_lt h);rw[Int.add_mul] at this;omega
  subst e;rw[mS ha' f d (by omega)]
theorem vY(h:aJ l)(h0:l≠[])(h1:nth l 0≠0):256 ^ (l.length - 1)<=bJ l:=by
 cases l with
 | nil=>exact absurd rfl h0
 | cons x l =>
  rw[dJ] at h1;have c:=h x List.mem_cons_self;have d:=bL (l:=l) (λz b=>h z (List.mem_cons_of_mem _ b))
  have a:(0:Int) < 256 ^ l.length:=Int.pow_pos (by decide);have:1 * 256 ^ l.length<=x * 256 ^ l.length:=Int.mul_le_mul_of_nonneg_right (by omega) (Int.le_of_lt a);rw[bJ,List.length_cons,Nat.add_sub_cancel];omega
theorem fU{a:Nat}(h:a<=b):(256:Int) ^ a<=256 ^ b:=by
 have:(256:Nat) ^ a<=256 ^ b:=Nat.pow_le_pow_right (by decide) h
 have e1:((256 ^ a:Nat):Int)=(256:Int) ^ a:=by rw[Int.natCast_pow];rfl
 have e2:((256 ^ b:Nat):Int)=(256:Int) ^ b:=by rw[Int.natCast_pow];rfl
 omega
theorem ni{a b:List Int}{n:Int}(c:IsB a n)(hb:IsB b n):a=b:=by
 apply mS c.1 hb.1
 ·have key:∀ {a b:List Int},IsB a n->IsB b n->¬ a.length < b.length:=by
   intro a b c hb d;have g:=(bL c.1).2;have f:=vY hb.1 (λe=>by subst e;simp at d) (hb.2.1 (λe=>by subst e;simp at d));rw[c.2.2] at g;rw[hb.2.2] at f;have:=fU (show a.length<=b.length - 1 by omega);omega
  have g:=key c hb;have f:=key hb c;omega
 rw[c.2.2,hb.2.2]
theorem yG(ao:Option Addr)(n c b o:Nat)(ao':Option Addr)(n' c' b' o':Nat)(l d:List Int)(w:World)(A:l.length=n)(r:d.length=n')(hbig:n<=4398046511104)(v:n'<=4398046511104)(s:AtB w ao b o l)(j:AtB w ao' b' o' d) :
  Calls Tryz.prog 10 #[.slice ao n c,.slice ao' n' c'] w λe w'=>e=.returned (.bool (eqB l d))/\BW w w':=by
 by_cases p:n=n'
 ·subst p;go_enter Tryz.func10,Tryz.ntmps10;go_wp2_with fail;go_loopw [5] (λu wr=>∃ k:Nat,k<=n/\u=.int .i64 k/\Hid (∀ i,i < k->nth l i=nth d i)/\BW w wr) (λu _=>n - (intOf u).toNat)
  case atStart=>exact⟨0,Nat.zero_le _,rfl,λi hi=>by omega,Below.refl _ _⟩
  case round =>
   obtain⟨k,hk,rfl,z,g⟩:=hrel;by_cases E:k < n
   ·have m:=s.keep g
    have f:=j.keep g;rcases s.loc with e | rfl
    ·subst e;simp at A;omega
    rcases j.loc with e | rfl
    ·subst e;simp at r;omega
    have q1:=m.cell k (by omega);have D:=f.cell k (by omega)
    have F:(k:Int) < n:=by omega
    by_cases q:nth l k=nth d k
    ·have B:Hid (nth l k=nth d k):=q;rw[q] at q1;generalize nth d k=x at q1 D;clear q s j m f;go_wp2_with fail;go_quiet (fail);go_wp2;go_roundw
     case rel=>exact⟨k + 1,by omega,by go_num,λi hi=>by
      by_cases e:i=k
      ·subst e;exact B.out
      exact z.out i (by omega),below_drewN g _⟩
     case measure=>simp[intOf];omega
    have t:eqB l d=false:=pA λe=>q (by rw[e])
    have C:(nth l k != nth d k)=true:=by rw[bne_iff_ne];exact q
    generalize nth l k=x at *;generalize nth d k=y at *;clear s j m f;go_wp2_with fail;go_quiet (fail);go_wp2;go_ret;exact⟨retB t.symm,below_drewN g _⟩
   go_wp2;go_ret;exact⟨retB (AX (jK (by omega) λi hi=>z.out i (by omega))).symm,g⟩
 have G:((n:Int) != (n':Int))=true:=by rw[bne_iff_ne]; omega
 have t:eqB l d=false:=pA λe=>p (by rw[<- A,<- r,e])
 go_enter Tryz.func10,Tryz.ntmps10;go_wp2;go_ret;exact⟨retB t.symm,Below.refl _ _⟩
end
section
variable {l:List Int}{i:Nat}
theorem bpow(k:Nat):(18446744073709551616:Int) ^ k=((2 ^ (64 * k):Nat):Int):=by
 rw[Nat.pow_mul,Int.natCast_pow];rfl
theorem Br(wl:Words l)(hn:aE l≠0):bitLen (val l).toNat=64 * (aE l - 1)+bitLen (nth l (aE l - 1)).toNat:=by
 have f:=aR wl;have a:=bN (norm l) (aE l - 1) (h:=by rw[aK];omega)
 have d:(norm l).drop (aE l - 1)=[nth l (aE l - 1)]:=by
  apply jK
  ·simp[aK];omega
  intro i hi;simp[aK] at hi;have:i=0:=by omega
  subst this;rw[dI,gx,dJ];rfl
 rw[d,eG,dn] at a;have c:=dO (wl.norm.take (aE l - 1));have e:=aR (wl.norm.take (aE l - 1));rw[List.length_take,aK,Nat.min_eq_left (by omega)] at c;have g:=wl.nth (aE l - 1);have j:=iM hn;generalize nth l (aE l - 1)=x at *;generalize val ((norm l).take (aE l - 1))=y at *;generalize aE l - 1=k at *;rw[bpow] at a c;obtain⟨x,rfl⟩:=Int.eq_ofNat_of_zero_le g.1;obtain⟨y,rfl⟩:=Int.eq_ofNat_of_zero_le e;obtain⟨v,hv⟩:=Int.eq_ofNat_of_zero_le f;rw[hv] at a ⊢
 have hq:v / 2 ^ (64 * k)=x:=by
  have b:v=y+2 ^ (64 * k) * x:=by
   have:(v:Int)=((y+2 ^ (64 * k) * x:Nat):Int):=by rw[a,Int.natCast_add,Int.natCast_mul]
   exact Int.ofNat.inj this
  rw[b,Nat.add_mul_div_left _ _ (Nat.two_pow_pos _),Nat.div_eq_of_lt (by omega),Nat.zero_add]
 rw[Int.toNat_natCast,Int.toNat_natCast,bitLen_shift v (64 * k) (by rw[hq];omega),hq]
theorem sU(ao:Option Addr)(n c b o:Nat)(l:List Int)(w:World)(p:l.length=n)(hc:n<=c)(hbig:n<=1099511627776)(wl:Words l)(g:At w ao b o l) :
  Calls Tryz.prog 222 #[.slice ao n c] w λe w'=>e=.returned (.int .i64 (bitLen (val l).toNat))/\BW w w':=by
 have hn:=bO l;have t1:=bP ao n c l w p hc g.cells;by_cases f:aE l=0
 ·rw[f] at t1
  have hv:(val l).toNat=0:=by rw[(cL wl).1 f];rfl
  rw[hv,show bitLen 0=0 from rfl];go_enter Tryz.func222,Tryz.ntmps222;go_wp2_with fail;refine t1.mono ?_
  rintro e q ⟨rfl,rfl⟩;go_wp2_with fail;go_ret;exact⟨rfl,Below.refl _ _⟩
 have i:=Br wl f;have hx:=wl.nth (aE l - 1);have d:=g.cell (aE l - 1) (by omega);have j:=im (n:=(nth l (aE l - 1)).toNat);have t2:=λm=>GB (nth l (aE l - 1)) m hx.1 hx.2
 rcases g.loc with e | rfl
 ·subst e;simp[aE] at f
 rw[i];generalize nth l (aE l - 1)=x at *;generalize bitLen x.toNat=L at *;clear i g;obtain⟨k,hk⟩:∃ k,aE l=k+1:=⟨aE l - 1,by omega⟩
 rw[hk] at t1 d hn ⊢;rw[Nat.add_sub_cancel] at d ⊢;clear hk f
 have r:(k:Int) < (k:Int)+1:=by omega
 go_enter Tryz.func222,Tryz.ntmps222;go_wp2_with fail;refine t1.mono ?_
 rintro e q ⟨rfl,rfl⟩;clear t1;go_wp2_with fail;refine(t2 _).mono ?_
 rintro e s ⟨rfl,rfl⟩;go_wp2;go_ret;exact⟨lI (by omega),Below.refl _ _⟩
theorem Cy:IsN [] 0:=⟨Words.nil,rfl,rfl⟩
structure CN(lb:List Int)(m k:Nat)(lz:List Int):Prop where
 len:lz.length=m
 words:Words lz
 val:Lim.val lz=bJ (lb.drop (lb.length - k))
theorem pz(h:i < l.length:=by omega):bJ (l.drop i)=nth l i * 256 ^ (l.length - 1 - i)+bJ (l.drop (i+1)):=by
 rw[List.drop_eq_getElem_cons h,bJ,cF h,List.length_drop,show l.length - (i+1)=l.length - 1 - i from by omega]
theorem aJ.drop(h:aJ l)(k:Nat):aJ (l.drop k):=λx hx=>h x (List.mem_of_mem_drop hx)
theorem DN(h:i < l.length)(x:Int):val (l.set i x)=val l+18446744073709551616 ^ i * (x - nth l i):=by
 have e1:=bN (l.set i x) i (h:=by simp;omega);have e2:=bN l i;rw[List.take_set_of_le (Nat.le_refl _),List.drop_set,if_neg (by omega),Nat.sub_self] at e1;rw[List.drop_eq_getElem_cons h,List.set_cons_zero,val] at e1;rw[List.drop_eq_getElem_cons h,val] at e2;rw[e1,e2,cF h];grind
theorem DG(wl:Words l)(h:i < l.length){P:Int}(e:val l < 18446744073709551616 ^ i * P):nth l i < P:=by
 have e2:=bN l i;rw[List.drop_eq_getElem_cons h,val] at e2;have f:=aR (wl.take i);have c:=aR (wl.drop (i+1));have a:=pow_pos i
 have d:0<=18446744073709551616 ^ i * (18446744073709551616 * val (l.drop (i+1))):=Int.mul_nonneg (Int.le_of_lt a) (by omega);rw[Int.mul_add] at e2
 have b:18446744073709551616 ^ i * nth l i < 18446744073709551616 ^ i * P:=by rw[cF h];omega
 exact Int.lt_of_mul_lt_mul_left b (Int.le_of_lt a)
theorem kS(k:Nat):(256:Int) ^ k=18446744073709551616 ^ (k / 8) * 2 ^ (8 * (k % 8)):=by
 have e:(18446744073709551616:Int)=256 ^ 8:=by decide
 have e2:(2:Int) ^ (8 * (k % 8))=256 ^ (k % 8):=by rw[Int.pow_mul];rfl
 rw[e,e2,<- Int.pow_mul,<- Int.pow_add];congr 1;omega
theorem Fc{lb lz:List Int}{m k:Nat}(hb:aJ lb)(hm:(lb.length+7) / 8=m)(h:CN lb m k lz)(hk:k < lb.length) :
  bits .or .u64 (nth lz (k / 8)) (IntKind.u64.wrap (nth lb (lb.length - 1 - k) * 2 ^ (8 * (k % 8))))=nth lz (k / 8)+nth lb (lb.length - 1 - k) * 2 ^ (8 * (k % 8)) /\
  CN lb m (k+1) (lz.set (k / 8) (nth lz (k / 8)+nth lb (lb.length - 1 - k) * 2 ^ (8 * (k % 8)))):=by
 have g:=h.len;have hx:=hb.nth (lb.length - 1 - k);have c:=bL (hb.drop (lb.length - k));rw[List.length_drop,show lb.length - (lb.length - k)=k from by omega] at c;have hv:=h.val;have b:=h.words.nth (k / 8);have d:=DG h.words (i:=k / 8) (by omega) (P:=2 ^ (8 * (k % 8))) (by rw[<- kS,hv];exact c.2)
 have hS:(0:Int) < 2 ^ (8 * (k % 8)):=Int.pow_pos (by decide)
 have j:(2:Int) ^ (8 * (k % 8)) * 256<=18446744073709551616:=by
  have:(2:Nat) ^ (8 * (k % 8))<=2 ^ 56:=Nat.pow_le_pow_right (by decide) (by omega)
  have e:((2 ^ (8 * (k % 8)):Nat):Int)=(2:Int) ^ (8 * (k % 8)):=by rw[Int.natCast_pow];rfl
  have e2:(2:Nat) ^ 56=72057594037927936:=by decide
  omega
 have a:0<=nth lb (lb.length - 1 - k) * 2 ^ (8 * (k % 8)):=Int.mul_nonneg hx.1 (Int.le_of_lt hS)
 have f:nth lb (lb.length - 1 - k) * 2 ^ (8 * (k % 8))<=255 * 2 ^ (8 * (k % 8)):=Int.mul_le_mul_of_nonneg_right (by omega) (Int.le_of_lt hS);constructor
 ·rw[IntKind.wrap_u64,Int.emod_eq_of_lt a (by omega)];rw[u64_or _ _ b.1 b.2 a (by omega),Nat.or_comm,<- u64_or _ _ a (by omega) b.1 b.2];rw[qm _ _ (8 * (k % 8)) _ rfl hx.1 b.1 d (hb2:=b.2),Int.add_comm]
 refine⟨by simp[g],h.words.set _ (by omega) (by omega),?_⟩;rw[DN (by omega),hv,show lb.length - (k+1)=lb.length - 1 - k from by omega,pz (l:=lb) (i:=lb.length - 1 - k),show lb.length - 1 - k+1=lb.length - k from by omega,show lb.length - 1 - (lb.length - 1 - k)=k from by omega,kS k];grind
theorem Ei(ao:Option Addr)(n c b o:Nat)(lb:List Int)(w:World)(f:lb.length=n)(hn:0 < n)(d:AtB w ao b o lb)(h0:nth lb 0=0) :
  Calls Tryz.prog 251 #[.slice ao n c] w λe w'=>e=.returned (.tuple #[.slice none 0 0,.int .i64 13])/\w'=w:=by
 rcases d.loc with e | rfl
 ·subst e;simp at f;omega
 have hc:=d.cell 0 (by omega);rw[h0,Nat.add_zero] at hc;go_enter Tryz.func251,Tryz.ntmps251;go_wp2;go_ret2;exact⟨rfl,rfl⟩
theorem Da(ao:Option Addr)(n c b o:Nat)(lb:List Int)(w:World)(E:lb.length=n)(hbig:n<=1099511627776)(ho:aJ lb)(D:AtB w ao b o lb)(h0:0 < n->nth lb 0≠0) :
  Calls Tryz.prog 251 #[.slice ao n c] w λe w'=>∃ v r,e=.returned (.tuple #[v,.int .i64 0])/\dL w w' v r/\IsN r (bJ lb)/\r.length<=n/\BW w w':=by
 obtain⟨m,hm⟩:∃ m:Nat,((n:Int)+7) / 8=m:=⟨(n+7) / 8,by omega⟩
 have W:m<=n:=by omega
 have y:lb=[]\/b≠w.heap.size:=by
  rcases D.lt with e | e
  ·exact .inl e
  exact .inr (by omega)
 by_cases hn:0 < n
 ·rcases D.loc with e | rfl
  ·subst e;simp at E;omega
  have hc:=D.cell 0 (by omega);rw[Nat.add_zero] at hc
  have u:(nth lb 0 == 0)=false:=beq_eq_false_iff_ne.2 (h0 hn)
  have s:nth lb 0≠0:=h0 hn;have V:=(show Hid _ from s)
  clear s h0;go_enter Tryz.func251,Tryz.ntmps251;go_wp2_with (at_make;refine cY rfl _ _ rfl m _ _ rfl rfl ?_;intro O d f G);have p:=D.keep f;clear hc u;go_loopw [22] (λJ wr=>∃ (k:Nat) (l:List Int),k<=n/\J=.int .i64 k/\CN lb m k l/\At wr (some ⟨w.heap.size,0,none⟩) w.heap.size 0 l/\Wr w.heap.size 0 m O wr) (λJ _=>n - (intOf J).toNat)
  case atStart=>exact⟨0,_,Nat.zero_le _,rfl,⟨by simp,eE _,by rw[Nat.sub_zero,List.drop_length,fp λi=>by simp[nth,List.getElem?_replicate];split<;>rfl];rfl⟩,d.at,Wr.refl _ _ _ _⟩
  case round =>
   obtain⟨k,l,hk,rfl,hinv,q,g⟩:=hrel;have hlen:=hinv.len;by_cases T:k < n
   ·obtain⟨i,hi⟩:∃ i:Nat,(k:Int) / 8=i:=⟨k / 8,by omega⟩
    obtain⟨j,hj⟩:∃ j:Nat,(k:Int) % 8=j:=⟨k % 8,by omega⟩
    obtain⟨h,hh⟩:∃ h:Nat,(n:Int) - 1 - k=h:=⟨n - 1 - k,by omega⟩
    have S:(i:Int) < m:=by omega
    have Q:(h:Int) < n:=by omega
    have U:j < 8:=by omega
    have u:=q.cell i (by omega);have hcb:=(p.wr g y).cell h (by omega);have N:=g.free (d.free 0 m) i (by omega);rw[Nat.zero_add] at u N;have B:=Fc ho (m:=m) (by omega) hinv (by omega);rw[show k / 8=i from by omega,show k % 8=j from by omega,show lb.length - 1 - k=h from by omega] at B;obtain⟨C,t⟩:=B;have Y:=(show Hid _ from t)
    have R:=(show Hid _ from q)
    have Z:=(show Hid _ from g)
    have X:=ho.nth h;clear t q g hinv d p ho;generalize nth l i=z at *;generalize nth lb h=x at *;go_wp2_with fail;go_region;go_wp2;rw[Nat.mul_comm j 8,C];refine⟨⟨k+1,_,by omega,by go_num,Y.out,?_,?_⟩,by simp[intOf];omega⟩
    ·have:=(R.out.setCell (i:=i) (by omega) (z+x * 2 ^ (8 * j))).drew;rwa [Nat.zero_add] at this
    exact(Z.out.setCell (by omega) (by omega) _).drew
   have F:k=n:=by omega
   subst F;have hv:=hinv.val;rw[<- E,Nat.sub_self,List.drop_zero] at hv;have L:=g.free (d.free 0 m);have HB:=f.trans (g.below (Nat.le_refl _));have H:=bL ho;have M:=vY ho (λe=>by subst e;simp at E;omega) V.out
   have A:aE l=l.length:=by
    have h1:=bO l;by_cases c:aE l < l.length
    ·have h2:=ij hinv.words;have h3:=kh (show aE l<=m - 1 by omega)
     have h4:(18446744073709551616:Int) ^ (m - 1)<=256 ^ (lb.length - 1):=by
      rw[show (18446744073709551616:Int)=256 ^ 8 from by decide,<- Int.pow_mul];exact fU (by omega)
     rw[hv] at h2;omega
    omega
   have HI:IsN l (bJ lb):=⟨hinv.words,A,hv⟩
   clear hinv d g f p hv H M A;go_wp2;go_ret2;exact⟨_,l,rfl,dL.of hlen.symm (Nat.le_refl _) (Nat.le_refl _) q L,HI,by omega,HB⟩
 have K:n=0:=by omega
 subst K
 have P:lb=[]:=List.eq_nil_of_length_eq_zero E;subst P
 have I:m=0:=by omega
 subst I;clear hm D y;go_enter Tryz.func251,Tryz.ntmps251;go_wp2_with (at_make;refine cY rfl _ _ rfl 0 _ _ rfl rfl ?_;intro O d f G);refine wp_loop_rounds 1 ?_
 rw[rounds_succ];go_wp2;go_ret2;exact⟨_,[],rfl,dL.of rfl (Nat.le_refl _) (Nat.le_refl _) d.at (d.free _ _),Cy,by simp,f⟩
end
section
variable {w w':World}{ao ao':Option Addr}{n c n' c' g:Nat}{x y:Int}{v:Value}{r:List Int}{tmps:Array Value}
structure aW(w:World)(ao:Option Addr)(n c:Nat)(x:Int):Prop where
 ex:∃ b o l,l.length=n/\n<=c/\Words l/\At w ao b o l/\val l=x
structure jf(w:World)(ao:Option Addr)(n c:Nat)(x:Int):Prop where
 ex:∃ b o l,l.length=n/\n<=c/\IsN l x/\At w ao b o l
theorem jf.a(h:jf w ao n c x):aW w ao n c x:=by
 obtain⟨b,o,l,h1,h2,h3,h4⟩:=h.ex;exact⟨b,o,l,h1,h2,h3.1,h4,h3.2.2⟩
theorem aW.keep(h:aW w ao n c x)(hb:BW w w'):aW w' ao n c x:=by
 obtain⟨b,o,l,h1,h2,h3,h4,h5⟩:=h.ex;exact⟨b,o,l,h1,h2,h3,h4.keep hb,h5⟩
theorem jf.keep(h:jf w ao n c x)(hb:BW w w'):jf w' ao n c x:=by
 obtain⟨b,o,l,h1,h2,h3,h4⟩:=h.ex;exact⟨b,o,l,h1,h2,h3,h4.keep hb⟩
theorem aW.nonneg(h:aW w ao n c x):0<=x:=by
 obtain⟨b,o,l,h1,h2,h3,h4,h5⟩:=h.ex;rw[<- h5];exact aR h3
theorem De(w:World):jf w none 0 0 0:=⟨0,0,[],rfl,Nat.le_refl _,jP,.inl rfl,λi hi=>by simp at hi⟩
theorem dL.o(h:dL w w' v r)(hI:IsN r x):∃ a c,v=.slice a r.length c/\jf w' a r.length c x:=by
 obtain⟨ao,b,o,c,e,h1,h2,h3,h4⟩:=h.is;exact⟨ao,c,e,b,o,r,rfl,h1,hI,h3⟩
theorem ae{wa:World}(b:BW w wa)(h:BW wa w'):BW w w':=b.trans (h.mono b.size)
theorem nMul(h:aW w ao n c x)(t:aW w ao' n' c' y)(hn:n<=1099511627776)(g:n'<=1099511627776) :
  CP 267 #[.slice ao n c,.slice ao' n' c'] w λe w'=>∃ a k d,e=.returned (.slice a k d)/\jf w' a k d (x * y)/\k<=n+n'/\BW w w':=by
 obtain⟨b,o,l,z,q,C,u,rfl⟩:=h.ex;obtain⟨s,D,E,m,i,p,f,rfl⟩:=t.ex;refine(qa ao n c b o ao' n' c' s D l E w z m q i hn g C p u f).mono ?_
 rintro e w' ⟨v,r,rfl,j,B,hlen,F⟩;obtain⟨a,d,rfl,A⟩:=j.o B;exact⟨a,_,d,rfl,A,hlen,F⟩
theorem Ah(i:aW w ao' n' c' y)(a:n'<=1099511627776)(k:y=0) :
  CP 355 #[v,.slice ao' n' c'] w λe w'=>e=.returned (.tuple #[.slice none 0 0,.slice none 0 0,.int .i64 11])/\w'=w:=by
 obtain⟨g,h,j,d,b,f,c,rfl⟩:=i.ex;exact div_zero v ao' n' c' g h j w d b a f c k
theorem rT{ad:Option Addr}{b f:Nat}{z:Int}(h:aW w ao n c x)(j:aW w ao' n' c' y)(i:aW w ad b f z)(hn:n<=274877906944)(m:n'<=274877906944)(o:b<=274877906944)(l:z=0) :
  Calls Tryz.prog 321 #[.slice ao n c,.slice ao' n' c',.slice ad b f] w λe w'=>e=.returned (.tuple #[.slice none 0 0,.slice none 0 0,.int .i64 11])/\BW w w':=by
 go_enter Tryz.func321,Tryz.ntmps321;go_wp2_with fail;refine(nMul h j (by omega) (by omega)).mono ?_
 rintro e p ⟨a,k,d,rfl,q,hk,g⟩;go_wp2_with fail;refine(Ah (i.keep g) (by omega) l).mono ?_
 rintro e r ⟨rfl,rfl⟩;go_wp2;go_ret3;exact⟨rfl,g⟩
theorem nBits(h:aW w ao n c x)(hn:n<=1099511627776) :
  CP 222 #[.slice ao n c] w λe w'=>e=.returned (.int .i64 (bitLen x.toNat))/\BW w w':=by
 obtain⟨b,o,l,g,a,d,f,rfl⟩:=h.ex;exact sU ao n c b o l w g a hn d f
theorem nPow(n:Nat)(hn:n<=4096) :
  CP 230 #[.int .i64 n] w λe w'=>∃ a k d,e=.returned (.tuple #[.slice a k d,.int .i64 0])/\jf w' a k d (10 ^ n)/\k<=n+2/\BW w w':=by
 refine(xI n w hn).mono ?_
 rintro e w' ⟨v,r,rfl,b,c,hlen,f⟩;obtain⟨a,d,rfl,g⟩:=b.o c;exact⟨a,_,d,rfl,g,hlen,f⟩
theorem sd(x:Int)(hx:0<=x):(bitLen x.toNat=0)<->x=0:=by
 constructor
 ·intro h;by_cases e:x.toNat=0
  ·omega
  have:=mZ e;omega
 intro h;subst h;rfl
structure Slot(w:World)(g:Nat)(v:Value)(t:TypeId):Prop where
 blk:w.heap[g]?=some (.cells #[v] t (0,0))
theorem Slot.cell{t:TypeId}(h:Slot w g v t):w.cell? ⟨g,0,none⟩=some v:=cell_of_one h.blk
theorem Slot.free{t:TypeId}(h:Slot w g v t):w.frozen? ⟨g,0,none⟩=false:=free_of_one h.blk
theorem Slot.lt{t:TypeId}(h:Slot w g v t):g < w.heap.size:=lt_of_block h.blk
theorem Slot.keep{t:TypeId}(h:Slot w g v t)(hb:BW w w'):Slot w' g v t:=⟨by rw[hb.block g h.lt];exact h.blk⟩
theorem Slot.put{t:TypeId}(h:Slot w g v t)(u:Value):Slot (w.setCell ⟨g,0,none⟩ u) g u t:=⟨one_setCell h.blk⟩
theorem mM(w:World)(v:Value)(t:TypeId):Slot (w.alloc (.cells #[v] t)) w.heap.size v t:=⟨by
 show (w.heap.push _)[w.heap.size]?=_
 rw[Array.getElem?_push_size]⟩
theorem Slot.alloc{t:TypeId}(h:Slot w g v t)(o:Obj):Slot (w.alloc o) g v t:=h.keep (aa w o)
theorem uZ(w:World)(o:Obj)(v:Value)(t:TypeId):Slot ((w.alloc o).alloc (.cells #[v] t)) (w.heap.size+1) v t:=by
 have:=mM (w.alloc o) v t;rwa [show (w.alloc o).heap.size=w.heap.size+1 by simp] at this
theorem below2(w:World)(o o':Obj):BW w ((w.alloc o).alloc o'):=ae (aa w o) (aa _ o')
theorem CI:(Tryz.prog.info? 55).map (·.size)=some 1:=by kernel_rfl
theorem yo:∃ f,Tryz.prog.underlying 55=some (.struct f):=by
  cases h:Tryz.prog.underlying 55 with
  | none => exact absurd h (by have : (Tryz.prog.underlying 55).isSome = true := by kernel_rfl
                               intro e;rw[e] at this;simp at this)
  | some d =>
    have:(match Tryz.prog.underlying 55 with | some (.struct _)=>true | _=>false)=true:=by kernel_rfl
    rw[h] at this
    cases d <;> first | exact⟨_,rfl⟩ | simp at this
theorem Cl{t:TypeId}(s:Slot w g v t):(loadVar 55 ⟨g,0,none⟩).run Tryz.prog w=.ok (.agg #[v]) w:=by
 obtain⟨f,hu⟩:=yo;exact run_loadVar_row w g t 55 #[v] (0,0) _ s.blk hu rfl CI
theorem rh{fn:Func}{p:Tmp}(h:fn.results=#[.cell p 55]){t:TypeId}(hp:tmps.getD p undef=.pointer (some ⟨g,0,none⟩))(s:Slot w g v t) :
  (results fn tmps).run Tryz.prog w=.ok (.agg #[v]) w:=by
 have a:tmps[p]?.getD undef=.pointer (some ⟨g,0,none⟩):=by simpa using hp
 simp[results,h,a,asAddr,Cl s]
end
section
variable {ops:Array Oper} {Q:Exit->Act->World->Prop} {S:World->Prop} {fuel:Nat} {listed:Array Bool} {a:Act} {w:World}
section
variable {Qc:Ending→World→Prop}
def lY(ops:Array Oper)(listed:Array Bool)(a:Act)(i:Nat)(d:Option Tmp):Bool :=
 Region.noSelect ops && Region.free .any ops listed i && (Region.ready .any ops listed).contains i && decide (i < ops.size) && Region.wanted (ops.getD i default) (yielded ops a.tmps) && decide ((ops.getD i default).dst=d)
def lM(ops:Array Oper)(listed:Array Bool)(a:Act)(i:Nat)(d:Option Tmp):Bool :=
 decide (Region.ready .any ops listed=[i]) && decide (i < ops.size) && Region.wanted (ops.getD i default) (yielded ops a.tmps) && decide ((ops.getD i default).dst=d)
theorem cC{i:Nat}(h:i < ops.size):ops[i]?=some (ops.getD i default):=by
 simp[Array.getD,h]
theorem re(i:Nat)(d:Option Tmp)(v:Value)(hc:lY ops listed a i d=true)(hy:∀ w',S w'->(execOp a.eval (ops.getD i default)).run Tryz.prog w'=.ok (.value v) w')(hQ:∀ c a w,Q (.panic c) (a.put d v) w->Q (.panic c) a w)(hS:S w)(h:wpAnyH Tryz.prog .any ops Q S fuel (listed.setIfInBounds i true) (a.put d v) w):wpAnyH Tryz.prog .any ops Q S (fuel+1) listed a w:=by
 simp only[lY,Bool.and_eq_true,decide_eq_true_eq] at hc;obtain⟨⟨⟨⟨⟨j,b⟩,e⟩,g⟩,k⟩,f⟩:=hc;subst f;exact wpAnyH_take (cC g) j b e hQ (.inl ⟨k,hy⟩) hS h
theorem i3{α β γ:Type}{p:α->β->γ->Prop}:∀ c a w,p c a w->p c a w:=λ_ _ _ h=>h
theorem aI(i d:Nat)(v:Value)(hS:S w)(h:wpAnyH Tryz.prog .any ops Q S fuel (listed.setIfInBounds i true) (a.put (some d) v) w)(hc:lY ops listed a i (some d)=true:=by kernel_rfl)(hy:∀ w',S w'->(execOp a.eval (ops.getD i default)).run Tryz.prog w'=.ok (.value v) w':=by intro _ _;kernel_rfl)(hQ:∀ c a w,Q (.panic c) (a.put (some d) v) w->Q (.panic c) a w:=by exact λ_ _ _ h=>h):wpAnyH Tryz.prog .any ops Q S (fuel+1) listed a w:=re i (some d) v hc hy hQ hS h
theorem aV(i:Nat)(d:Option Tmp)(v:Value)(T:TypeId)(k g o:Nat)(e:∀ w',S w'->(loadVar T ⟨g,o,none⟩).run Tryz.prog w'=.ok v w')(hS:S w)(h:wpAnyH Tryz.prog .any ops Q S fuel (listed.setIfInBounds i true) (a.put d v) w)(hc:lY ops listed a i d=true:=by kernel_rfl)(ho:(ops.getD i default).op=.load T (.tmp k):=by kernel_rfl)(hp:a.eval (.tmp k)=.pointer (some ⟨g,o,none⟩):=by kernel_rfl)(hQ:∀ c a w,Q (.panic c) (a.put d v) w->Q (.panic c) a w:=by exact λ_ _ _ h=>h):wpAnyH Tryz.prog .any ops Q S (fuel+1) listed a w :=
 re i d v hc (λw' b=>by
  have:=e w' b;simp only[execOp,ho,hp]
  simp[Instr.loadAt,Instr.sureAddr,Result.andThen,this]) hQ hS h
theorem da(i:Nat)(d:Option Tmp)(f:FuncId)(args:Array Value)(b:CP f args w Qc)(hk:∀ e w',Qc e w'→∃ v,e=.returned v∧S w'∧wpAnyH Tryz.prog .any ops Q S fuel (listed.setIfInBounds i true) (a.put d v) w')(hc:lM ops listed a i d=true:=by kernel_rfl)(hrun:(execOp a.eval (ops.getD i default)).run Tryz.prog w=.ok (.enter f args) w:=by kernel_rfl) :
    wpAnyH Tryz.prog .any ops Q S (fuel+1) listed a w:=by
  simp only[lM,Bool.and_eq_true,decide_eq_true_eq] at hc;obtain⟨⟨⟨l,g⟩,k⟩,m⟩:= hc;subst m;refine wpAnyH_all l (by simp) λj n=>?_
  obtain rfl:j=i:=by simpa using n
  refine wpOp_step (cC g) λK h=>?_
  rw[if_pos k];unfold Oper.wp;rw[hrun];refine b.mono λe w' he=>?_
  obtain⟨v,rfl,c,hw⟩:= hk e w' he;exact h _ _ ⟨c,hw⟩
theorem cn(h:Q .normal a w)(hr:Region.ready .any ops listed=[]:=by kernel_rfl):wpAnyH Tryz.prog .any ops Q S fuel listed a w:=wpAnyH_done hr h fuel
theorem cZ{id:Nat}(hm:Tryz.prog.follows .mixedOrders=true)(hS:S w.drew)(h:wpAnyH Tryz.prog .any ops Q S ops.size (Array.replicate ops.size false) a w.drew):(Code.region id ops true).wp Tryz.prog Q a w :=
 wp_region_held_drew hm hS λ_=>h
end
end
section
variable {w w':World}{g:Nat}{cs ds:List Value}
structure Box(w:World)(g:Nat)(cs:List Value)(t:TypeId):Prop where
 blk:w.heap[g]?=some (.cells cs.toArray t (0,0))
theorem Box.lt{t:TypeId}(h:Box w g cs t):g < w.heap.size:=lt_of_block h.blk
theorem Box.keep{t:TypeId}(h:Box w g cs t)(hb:BW w w'):Box w' g cs t:=⟨by rw[hb.block g h.lt];exact h.blk⟩
theorem Box.drew{t:TypeId}(h:Box w g cs t):Box w.drew g cs t:=⟨h.blk⟩
theorem fV(w:World)(cs:List Value)(t:TypeId):Box (w.alloc (.cells cs.toArray t)) w.heap.size cs t:=⟨by
 show (w.heap.push _)[w.heap.size]?=_
 rw[Array.getElem?_push_size]⟩
theorem Box.row{t:TypeId}(h:Box w g cs t):Box (w.setRow g ds.toArray) g ds t:=⟨by rw[setRow_heap w g _ _ _ _ h.blk]⟩
theorem oP{B:Nat}(h:Below B w w')(hB:B<=g)(ds:Array Value):Below B w (w'.setRow g ds) :=
 h.trans ⟨rfl,rfl,rfl,by simp[World.setRow],λk hk=>setRow_other w' g k ds (by omega)⟩
theorem Box.off{g':Nat}{t:TypeId}(h:Box w g cs t)(hne:g≠g')(hw:∀ k,k≠g'->w'.heap[k]?=w.heap[k]?):Box w' g cs t:=⟨by rw[hw g hne];exact h.blk⟩
end
section
variable {ops:Array Oper} {Q:Exit->Act->World->Prop} {S:World->Prop} {fuel:Nat} {listed:Array Bool} {a:Act} {w:World}
section
variable {rs:List Nat}
def je(ops:Array Oper)(a:Act)(i:Nat)(d:Option Tmp):Bool :=
 decide (i < ops.size) && Region.wanted (ops.getD i default) (yielded ops a.tmps) && decide ((ops.getD i default).dst=d)
theorem aQ(rs:List Nat)(h:AllReadyH Tryz.prog .any ops Q S fuel listed a w rs)(hr:Region.ready .any ops listed=rs:=by kernel_rfl)(b:rs≠[]:=by simp):wpAnyH Tryz.prog .any ops Q S (fuel+1) listed a w:=wpAnyH_ready hr b h
theorem aY:AllReadyH Tryz.prog .any ops Q S fuel listed a w []:=AllReadyH.nil
theorem bU(i:Nat)(d:Option Tmp)(v:Value)(w1:World)(hrun:(execOp a.eval (ops.getD i default)).run Tryz.prog w=.ok (.value v) w1)(b:S w1)(h:wpAnyH Tryz.prog .any ops Q S fuel (listed.setIfInBounds i true) (a.put d v) w1)(hs:AllReadyH Tryz.prog .any ops Q S fuel listed a w rs)(hc:je ops a i d=true:=by kernel_rfl):AllReadyH Tryz.prog .any ops Q S fuel listed a w (i :: rs):=by
 simp only[je,Bool.and_eq_true,decide_eq_true_eq] at hc;obtain⟨⟨c,f⟩,g⟩:=hc;subst g;refine AllReadyH.cons (cC c) (λK e=>?_) hs;rw[if_pos f];unfold Oper.wp;rw[hrun]
 show K (a.put (ops.getD i default).dst v) w1
 exact e.out _ _ b λ_=>h
theorem dy(i:Nat)(w1:World)(hrun:(execOp a.eval (ops.getD i default)).run Tryz.prog w=.ok .skip w1)(b:S w1)(h:wpAnyH Tryz.prog .any ops Q S fuel (listed.setIfInBounds i true) (a.put none undef) w1)(hs:AllReadyH Tryz.prog .any ops Q S fuel listed a w rs)(hc:je ops a i none=true:=by kernel_rfl):AllReadyH Tryz.prog .any ops Q S fuel listed a w (i :: rs):=by
 simp only[je,Bool.and_eq_true,decide_eq_true_eq] at hc;obtain⟨⟨c,e⟩,f⟩:=hc;refine AllReadyH.cons (cC c) (λK d=>?_) hs;rw[if_pos e];unfold Oper.wp;rw[hrun]
 show K (a.put (ops.getD i default).dst undef) w1
 rw[f];exact d.out _ _ b λ_=>h
theorem tY(i:Nat)(d:Option Tmp)(T:TypeId)(cs:List Value)(hc:je ops a i d=true)(hrun:(execOp a.eval (ops.getD i default)).run Tryz.prog w=.ok (.value (.pointer (some ⟨w.heap.size,0,none⟩))) (w.alloc (.cells cs.toArray T)))(hk:∀ V,Box V w.heap.size cs T->BW w V->S V/\wpAnyH Tryz.prog .any ops Q S fuel (listed.setIfInBounds i true) (a.put d (.pointer (some ⟨w.heap.size,0,none⟩))) V)(hs:AllReadyH Tryz.prog .any ops Q S fuel listed a w rs):AllReadyH Tryz.prog .any ops Q S fuel listed a w (i :: rs):=by
 obtain⟨c,b⟩:=hk _ (fV w cs T) (aa w _);exact bU i d _ _ hrun c b hs (hc:=hc)
end
end
section
variable {w:World}{g m:Nat}{l r:List Int}{ops:Array Oper}{rest:List Oper}{V:Int}{ao:Option Addr}
theorem gT:(Tryz.prog.info? 5).map (λi=>(i.zero,i.size,i.bytes))=some (some (.int .u8 0),1,1):=by kernel_rfl
theorem cJ:Tryz.prog.underlying 29=some (.slice 5):=by kernel_rfl
def vG(w:World)(g:Nat)(l:List Int):Prop:=w.heap[g]?=some (.cells (l.map (Value.int .u8)).toArray 5 (0,0))
theorem vG.at(h:vG w g l):AtB w (some ⟨g,0,none⟩) g 0 l :=
 ⟨.inr rfl,λi hi=>by
  unfold vG at h;simp only[World.cell?,h]
  simp[cF hi,hi]⟩
theorem vG.free(h:vG w g l)(o n:Nat):dN w g o n:=by
 intro i _;unfold vG at h;simp[World.frozen?,h]
theorem wX(n:Nat):madeCells (Value.int .u8 0).cells n=((List.replicate n 0).map (Value.int .u8)).toArray:=by
 apply Array.ext
 ·simp[size_madeCells]
 intro j b a;simp[madeCells,Value.cells,Nat.mod_one]
theorem qc{o:Oper}{a:Act}{Q:Exit->Act->World->Prop}(f:o.guard=none)(l c:Operand)(d:o.op=Op.makeSlice 29 l c)(n:Nat)(L C:Int)(j:a.eval l=.int .i64 L)(hc:a.eval c=.int .i64 C)(hL:L=(n:Int))(hC:C=(n:Int))(hn:n<=17592186044416)(g:∀ w',vG w' w.heap.size (List.replicate n 0)->BW w w'->w'.heap.size=w.heap.size+1->wpList Tryz.prog ops Q rest (a.put o.dst (.slice (some ⟨w.heap.size,0,none⟩) n n)) w') :
  wpList Tryz.prog ops Q (o :: rest) a w:=by
 obtain⟨i,hi,h,k,hb⟩:=info_parts gT;refine wpList_plain f λK e=>?_
 have b:=run_make (P:=Tryz.prog) w 29 5 i (.int .u8 0) cJ hi h .i64 .i64 (n:Int) (n:Int) (by omega) (by omega) (by rw[hb];omega) (by omega);subst hL;subst hC;unfold Oper.wp;simp only[execOp,d,j,hc];simp[b,Result.andThen];refine e _ _ (g _ ?_ ?_ ?_)
 ·show (w.heap.push _)[w.heap.size]?=_
  rw[Array.getElem?_push_size,k,Nat.mul_one,wX]
 ·exact(Below.refl _ _).alloc (Nat.le_refl _) _
 simp
theorem nK(V:Int)(d:0<=V)(k:Nat):V % 256 ^ (k+1)=(V / 256 ^ k % 256) * 256 ^ k+V % 256 ^ k:=by
 obtain⟨v,rfl⟩:=Int.eq_ofNat_of_zero_le d
 have e:∀ j:Nat,(256:Int) ^ j=((256 ^ j:Nat):Int):=λj=>by rw[Int.natCast_pow];rfl
 rw[e,e];have:=Nat.mod_mul (x:=v) (a:=256 ^ k) (b:=256);rw[<- Nat.pow_succ] at this
 have c:((v % 256 ^ (k+1):Nat):Int)=((v % 256 ^ k+256 ^ k * (v / 256 ^ k % 256):Nat):Int):=by rw[this]
 rw[Int.natCast_add,Int.natCast_mul] at c;simp only[Int.natCast_emod,Int.natCast_ediv] at c;rw[c,Int.add_comm,Int.mul_comm];rfl
theorem lO(a:0<=V)(h:∀ i,i < r.length->nth r (r.length - 1 - i)=V / 256 ^ i % 256):∀ k,k<=r.length->bJ (r.drop (r.length - k))=V % 256 ^ k
 | 0,_=>by rw[Nat.sub_zero,List.drop_length];simp[bJ]
 | k + 1,hk=>by
  have ih:=lO a h k (by omega);rw[show r.length - (k+1)=r.length - 1 - k from by omega,pz,show r.length - 1 - k+1=r.length - k from by omega,ih,h k (by omega),show r.length - 1 - (r.length - 1 - k)=k from by omega,nK V a k]
theorem Ep(wl:Words l)(i:Nat)(hi:i / 8 < l.length):nth l (i / 8) / 2 ^ (8 * (i % 8)) % 256=val l / 256 ^ i % 256:=by
 have e2:=bN l (i / 8);rw[List.drop_eq_getElem_cons hi,val,<- cF hi] at e2;have b:=aR (wl.take (i / 8));have a:=dO (wl.take (i / 8));rw[List.length_take,Nat.min_eq_left (by omega)] at a;have c:=pow_pos (i / 8)
 have hS:(0:Int) < 2 ^ (8 * (i % 8)):=Int.pow_pos (by decide)
 have d:(18446744073709551616:Int)=2 ^ (8 * (i % 8)) * (256 * 2 ^ (56 - 8 * (i % 8))):=by
  rw[show (256:Int)=2 ^ 8 from rfl,<- Int.pow_add,<- Int.pow_add,show 8 * (i % 8)+(8+(56 - 8 * (i % 8)))=64 from by omega];rfl
 rw[kS,<- Int.ediv_ediv_of_nonneg (Int.le_of_lt c),e2,Int.add_mul_ediv_left _ _ (by omega),Int.ediv_eq_zero_of_lt b a,Int.zero_add];generalize nth l (i / 8)=x at *;generalize val (l.drop (i / 8+1))=y at *
 conv=>rhs;rw[d]
 rw[Int.mul_assoc,Int.add_mul_ediv_left _ _ (by omega),Int.mul_assoc,Int.add_mul_emod_self_left]
structure nu(V:Int)(m k:Nat)(r:List Int):Prop where
 len:r.length=m
 oct:aJ r
 dig:∀ i,i < k->nth r (m - 1 - i)=V / 256 ^ i % 256
theorem nu.step{k:Nat}{x:Int}(h:nu V m k r)(hk:k < m)(hx:x=V / 256 ^ k % 256):nu V m (k+1) (r.set (m - 1 - k) x):=by
 have a:=h.len;refine⟨by simp[a],λy hy=>?_,λi hi=>?_⟩
 ·rcases List.mem_or_eq_of_mem_set hy with e | e
  ·exact h.oct y e
  subst e;rw[hx];exact⟨Int.emod_nonneg _ (by decide),Int.emod_lt_of_pos _ (by decide)⟩
 rw[dB];by_cases e:i=k
 ·subst e;rw[if_pos rfl];exact hx
 rw[if_neg (by omega)];exact h.dig i (by omega)
theorem nu.done(h:nu V m m r)(f:0<=V)(h1:V < 256 ^ m)(g:m≠0->256 ^ (m - 1)<=V):IsB r V:=by
 have d:=h.len;have hv:=lO f (r:=r) (λi hi=>by rw[d];exact h.dig i (by omega)) m (by omega);rw[d,Nat.sub_self,List.drop_zero,Int.emod_eq_of_lt f h1] at hv;refine⟨h.oct,λa=>?_,hv⟩
 have hm:m≠0:=λe=>a (List.eq_nil_of_length_eq_zero (by omega))
 have b:=h.dig (m - 1) (by omega);rw[show m - 1 - (m - 1)=0 from by omega] at b;rw[b]
 have c:(0:Int) < 256 ^ (m - 1):=Int.pow_pos (by decide)
 have q1:1<=V / 256 ^ (m - 1):=by rw[Int.le_ediv_iff_mul_le c];have:=g hm;omega
 have j:V / 256 ^ (m - 1) < 256:=by
  rw[Int.ediv_lt_iff_lt_mul c,Int.mul_comm,<- Int.pow_succ,show (m - 1).succ=m from by omega];exact h1
 rw[Int.emod_eq_of_lt (by omega) j];omega
theorem oS(d:0<=V):V < 256 ^ ((bitLen V.toNat+7) / 8)/\((bitLen V.toNat+7) / 8≠0->256 ^ ((bitLen V.toNat+7) / 8 - 1)<=V):=by
 obtain⟨v,rfl⟩:=Int.eq_ofNat_of_zero_le d;rw[Int.toNat_natCast];have b:=bitLen_spec v
 have e:∀ j:Nat,(256:Int) ^ j=((2 ^ (8 * j):Nat):Int):=λj=>by rw[Nat.pow_mul,Int.natCast_pow];rfl
 rw[e,e];constructor
 ·have:=Nat.pow_le_pow_right (n:=2) (by decide) (show bitLen v<=8 * ((bitLen v+7) / 8) by omega);have c:=b.1;omega
 intro hm
 have a:v≠0:=by intro e;subst e;simp[bitLen] at hm
 have:=Nat.pow_le_pow_right (n:=2) (by decide) (show 8 * ((bitLen v+7) / 8 - 1)<=bitLen v - 1 by omega);have c:=b.2 a;omega
theorem EG.of{w':World}{n c b o:Nat}(hn:n=l.length)(h1:n<=c)(h2:w.heap.size<=b)(h3:AtB w' ao b o l)(h4:dN w' b o n):EG w w' (.slice ao n c) l:=by
 subst hn;exact⟨ao,b,o,c,rfl,h1,h2,h3,h4⟩
theorem xA(ao:Option Addr)(n c b o:Nat)(l:List Int)(w:World)(J:l.length=n)(hc:n<=c)(hbig:n<=1099511627776)(wl:Words l)(K:At w ao b o l) :
  Calls Tryz.prog 257 #[.slice ao n c] w λe w'=>∃ v r,e=.returned v/\EG w w' v r/\IsB r (val l)/\r.length=(bitLen (val l).toNat+7) / 8/\r.length<=8 * n/\BW w w':=by
 have N:=aR wl;obtain⟨A,B⟩:=oS N;have t1:=sU ao n c b o l w J hc hbig wl K
 have O:bitLen (val l).toNat<=64 * n:=by
  have h1:=dO wl;rw[J,bpow] at h1;have Z:=(bitLen_spec (val l).toNat).2;by_cases c:bitLen (val l).toNat<=64 * n
  ·exact c
  have S:(val l).toNat≠0:=by intro e; rw[e] at c; simp[bitLen] at c
  have h4:=Nat.pow_le_pow_right (n:=2) (by decide) (show 64 * n<=bitLen (val l).toNat - 1 by omega);have:=Z S;omega
 obtain⟨m,hm⟩:∃ m:Nat,((bitLen (val l).toNat:Int)+7) / 8=m:=⟨(bitLen (val l).toNat+7) / 8,by omega⟩
 have y:(bitLen (val l).toNat+7) / 8=m:=by omega
 rw[y] at A B ⊢;generalize bitLen (val l).toNat=L at *;have HM:=(show Hid ((L+7) / 8=m) from y)
 have hm8:m<=8 * n:=by omega
 clear y;go_enter Tryz.func257,Tryz.ntmps257;go_wp2_with fail;refine t1.mono ?_
 rintro e C ⟨rfl,t⟩;have u:=K.keep t;have p:=t.size;clear t1 K;go_wp2_with (at_make;refine qc rfl _ _ rfl m _ _ rfl rfl (by omega) (by omega) (by omega) ?_;intro w2 d g R);have s:=u.keep g
 have E:l=[]\/b≠C.heap.size:=by
  rcases u.lt with e | e
  ·exact .inl e
  exact .inr (by omega)
 clear u;go_loopw [12] (λH wr=>∃ (k:Nat) (r:List Int),k<=m/\H=.int .i64 k/\nu (val l) m k r/\AtB wr (some ⟨C.heap.size,0,none⟩) C.heap.size 0 r/\Wr C.heap.size 0 m w2 wr) (λH _=>m - (intOf H).toNat)
 case atStart=>exact⟨0,_,Nat.zero_le _,rfl,⟨by simp,λx hx=>by rw[List.eq_of_mem_replicate hx];decide,λi hi=>by omega⟩,d.at,Wr.refl _ _ _ _⟩
 case round =>
  obtain⟨k,r,hk,rfl,hinv,q,f⟩:=hrel;have hlen:=hinv.len;by_cases G:k < m
  ·obtain⟨i,hi⟩:∃ i:Nat,(k:Int) / 8=i:=⟨k / 8,by omega⟩
   obtain⟨j,hj⟩:∃ j:Nat,(k:Int) % 8=j:=⟨k % 8,by omega⟩
   obtain⟨h,hh⟩:∃ h:Nat,(m:Int) - 1 - k=h:=⟨m - 1 - k,by omega⟩
   have U:(i:Int) < n:=by omega
   have P:(h:Int) < m:=by omega
   have V:j < 8:=by omega
   rcases s.loc with e | rfl
   ·subst e;simp at J;omega
   have T:=(s.wr f E).cell i (by omega);have M:=f.free (d.free 0 m) h (by omega);have F:=q.cell h (by omega);rw[Nat.zero_add] at M F;have hx:=wl.nth i;have z:=Ep wl k (by omega);rw[show k / 8=i from by omega,show k % 8=j from by omega] at z
   have W:Hid (nu (val l) m (k+1) (r.set h (nth l i / 2 ^ (8 * j) % 256))):=by
    have:=hinv.step (x:=nth l i / 2 ^ (8 * j) % 256) G z
    rwa [show m - 1 - k=h from by omega] at this
   have Q:=(show Hid _ from q)
   have X:=(show Hid _ from f)
   clear q f hinv d s wl z
   generalize nth l i=x at *;go_wp2_with fail;rw[Nat.mul_comm j 8];refine⟨⟨k+1,_,by omega,by go_num,W.out,?_,?_⟩,by simp[intOf];omega⟩
   ·have:=Q.out.setCell (i:=h) (by omega) (x / 2 ^ (8 * j) % 256);rwa [Nat.zero_add] at this
   exact X.out.setCell (by omega) (by omega) _
  have D:k=m:=by omega
  subst D;have Y:=hinv.done N A B;have I:=f.free (d.free 0 k);have HB:=(t.trans (g.mono p)).trans (f.below p);clear hinv d f g s t;go_wp2;go_ret;exact⟨_,r,rfl,EG.of hlen.symm (Nat.le_refl _) p q I,Y,by omega,by omega,HB⟩
end
end
end Go.Proofs.YtpoifdokmjhclaaGreat
