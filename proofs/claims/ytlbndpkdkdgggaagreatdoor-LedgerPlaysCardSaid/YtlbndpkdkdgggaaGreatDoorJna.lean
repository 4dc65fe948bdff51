/- Several texts, joined: Num, Trim, Bits, Mem, Own, Cmp, Len, Div64, DivS, Norm, AddT, Add, TakeT, Sub, DivOne, DivL, Guess, Mul, DivLong, DivM, Scale, Pow, Help, ByteMem, FromB, Digits, Parse, Nm, GcdOne. -/
import Derived.Test.YtlbndpkdkdgggaaGreatDoorChecked
import Derived.WalkKit
import Derived.WalkSpells
import Derived.WalkLawsBesides
import Derived.Laws.Externs
import Derived.Laws.MathBits
import Derived.Laws.CopyOwn
import Derived.Deep.QuietTactic
import Derived.BigQuiet
import Derived.Deep.RegionWith
import Derived.ScopeJumps
import Derived.WalkSmall
import Derived.OneCell
set_option maxRecDepth 100000
set_option maxHeartbeats 8000000
namespace Go.Proofs.YtlbndpkdkdgggaaGreatDoor
section
namespace Lim
def nth (l:List Int) (i:Nat):Int:=l.getD i 0
def val:List Int->Int
 | []=>0
 | x :: l=>x + 18446744073709551616 * val l
def Words (l:List Int):Prop:=∀ x∈l,0<=x/\x < 18446744073709551616
def nlen:List Int->Nat
 | []=>0
 | x :: l=>if nlen l=0 then (if x=0 then 0 else 1) else nlen l + 1
def norm (l:List Int):List Int:=l.take (nlen l)
def IsN (l:List Int) (n:Int):Prop:=Words l/\nlen l=l.length/\val l=n
theorem nth_nil (i:Nat):nth [] i=0:=by simp [nth]
theorem nth_zero (x:Int) (l:List Int):nth (x :: l) 0=x:=by simp [nth]
theorem nth_succ (x:Int) (l:List Int) (i:Nat):nth (x :: l) (i + 1)=nth l i:=by simp [nth]
theorem nth_ge {l:List Int} {i:Nat} (h:l.length<=i):nth l i=0:=by
 simp [nth,List.getElem?_eq_none h]
theorem nth_eq {l:List Int} {i:Nat} (h:i < l.length):nth l i=l[i]:=by
 simp [nth,List.getElem?_eq_getElem h]
theorem nth_mem {l:List Int} {i:Nat} (h:i < l.length):nth l i∈l:=by
 rw [nth_eq h]; exact List.getElem_mem h
theorem Words.nth {l:List Int} (h:Words l) (i:Nat):0<=nth l i/\nth l i < 18446744073709551616:=by
 by_cases hi:i < l.length
 ·exact h _ (nth_mem hi)
 ·rw [nth_ge (by omega)]; decide
theorem Words.nil:Words []:=fun _ h=>by simp at h
theorem Words.cons {x:Int} {l:List Int} (h0:0<=x) (h1:x < 18446744073709551616) (h:Words l):Words (x :: l):=by
 intro y hy
 rcases List.mem_cons.1 hy with e | e
 ·subst e; exact ⟨h0,h1⟩
 ·exact h y e
theorem Words.tail {x:Int} {l:List Int} (h:Words (x :: l)):Words l:=fun y hy=>h y (List.mem_cons_of_mem _ hy)
theorem Words.head {x:Int} {l:List Int} (h:Words (x :: l)):0<=x/\x < 18446744073709551616:=h x (List.mem_cons_self)
theorem Words.take {l:List Int} (h:Words l) (k:Nat):Words (l.take k):=fun x hx=>h x (List.mem_of_mem_take hx)
theorem Words.drop {l:List Int} (h:Words l) (k:Nat):Words (l.drop k):=fun x hx=>h x (List.mem_of_mem_drop hx)
theorem Words.append {a b:List Int} (ha:Words a) (hb:Words b):Words (a ++ b):=by
 intro x hx
 rcases List.mem_append.1 hx with e | e
 ·exact ha x e
 ·exact hb x e
theorem nth_take {l:List Int} {k i:Nat} (h:i < k):nth (l.take k) i=nth l i:=by
 simp [nth,h]
theorem nth_drop (l:List Int) (k i:Nat):nth (l.drop k) i=nth l (k + i):=by
 simp [nth,List.getElem?_drop]
theorem nth_append_left {a b:List Int} {i:Nat} (h:i < a.length):nth (a ++ b) i=nth a i:=by
 simp [nth,List.getElem?_append_left h]
theorem nth_append_right {a b:List Int} {i:Nat} (h:a.length<=i):nth (a ++ b) i=nth b (i - a.length):=by
 simp [nth,List.getElem?_append_right h]
theorem nth_ext {a b:List Int} (hl:a.length=b.length) (h:∀ i,i < a.length->nth a i=nth b i):a=b:=by
 apply List.ext_getElem hl
 intro i h1 h2
 have:=h i h1
 rwa [nth_eq h1,nth_eq h2] at this
theorem nth_set {l:List Int} {k i:Nat} {x:Int} (hk:k < l.length):nth (l.set k x) i=if i=k then x else nth l i:=by
 simp only [nth,List.getD_eq_getElem?_getD,List.getElem?_set]
 by_cases h:k=i
 ·subst h; simp [hk]
 ·simp [h,show ¬ i=k from fun e=>h e.symm]
theorem Words.set {l:List Int} (h:Words l) (k:Nat) {x:Int} (h0:0<=x) (h1:x < 18446744073709551616):Words (l.set k x):=by
 intro y hy
 rcases List.mem_or_eq_of_mem_set hy with e | e
 ·exact h y e
 ·subst e; exact ⟨h0,h1⟩
theorem take_succ_nth {l:List Int} {k:Nat} (h:k < l.length):l.take (k + 1)=l.take k ++ [nth l k]:=by
 rw [nth_eq h,List.take_succ_eq_append_getElem h]
theorem val_nonneg {l:List Int} (h:Words l):0<=val l:=by
 induction l with
 | nil=>simp [val]
 | cons x l ih=>have:=h.head; have:=ih h.tail; simp only [val]; omega
theorem val_append (a b:List Int):val (a ++ b)=val a + 18446744073709551616 ^ a.length * val b:=by
 induction a with
 | nil=>simp [val]
 | cons x a ih=>simp only [List.cons_append,val,ih,List.length_cons,Int.pow_succ]; grind
theorem val_lt {l:List Int} (h:Words l):val l < 18446744073709551616 ^ l.length:=by
 induction l with
 | nil=>simp [val]
 | cons x l ih =>
  have:=h.head; have:=ih h.tail
  simp only [val,List.length_cons,Int.pow_succ]; omega
theorem val_single (x:Int):val [x]=x:=by simp [val]
theorem val_take_succ {l:List Int} {k:Nat} (h:k < l.length):val (l.take (k + 1))=val (l.take k) + 18446744073709551616 ^ k * nth l k:=by
 rw [take_succ_nth h,val_append,val_single,List.length_take,Nat.min_eq_left (by omega)]
theorem val_split (l:List Int) (k:Nat) (h:k<=l.length):val l=val (l.take k) + 18446744073709551616 ^ k * val (l.drop k):=by
 conv=>lhs; rw [<- List.take_append_drop k l]
 rw [val_append,List.length_take,Nat.min_eq_left h]
theorem nlen_le (l:List Int):nlen l<=l.length:=by
 induction l with
 | nil=>simp [nlen]
 | cons x l ih=>simp only [nlen,List.length_cons]; split<;>(try split)<;>omega
theorem nlen_zero_iff {l:List Int}:nlen l=0<->∀ i,nth l i=0:=by
 induction l with
 | nil=>simp [nlen,nth]
 | cons x l ih =>
  simp only [nlen]
  constructor
  ·intro h i
   by_cases e:nlen l=0
   ·by_cases x0:x=0
    ·cases i with
     | zero=>rw [nth_zero,x0]
     | succ i=>rw [nth_succ]; exact ih.1 e i
    ·simp [e,x0] at h
   ·simp [e] at h
  ·intro h
   have h0:x=0:=by have:=h 0; rwa [nth_zero] at this
   have hl:nlen l=0:=ih.2 fun i=>by have:=h (i + 1); rwa [nth_succ] at this
   simp [hl,h0]
theorem nlen_of {l:List Int} {k:Nat} (hk:k<=l.length) (h0:∀ i,k<=i->nth l i=0) (h1:k≠0->nth l (k - 1)≠0):nlen l=k:=by
 induction l generalizing k with
 | nil=>simp [nlen] at *; omega
 | cons x l ih =>
  cases k with
  | zero =>
   have:nlen (x :: l)=0:=nlen_zero_iff.2 fun i=>h0 i (Nat.zero_le _)
   exact this
  | succ k =>
   have e:nlen l=k:=ih (by simpa using hk) (fun i hi=>by have:=h0 (i + 1) (by omega); rwa [nth_succ] at this) (fun hk0=>by
    have:=h1 (by omega); rw [show k + 1 - 1=(k - 1) + 1 from by omega,nth_succ] at this; exact this)
   simp only [nlen,e]
   by_cases hk0:k=0
   ·subst hk0
    have:=h1 (by omega); rw [show (0 + 1 - 1)=0 from rfl,nth_zero] at this
    simp [this]
   ·simp [hk0]
theorem nlen_above {l : List Int} {i : Nat} (h : nlen l ≤ i) : nth l i = 0 := by
  induction l generalizing i with
  | nil => simp [nth]
  | cons x l ih =>
    simp only [nlen] at h
    by_cases e : nlen l = 0
    · simp only [e, if_true] at h
      cases i with
      | zero => by_cases x0 : x = 0
                · rw [nth_zero, x0]
                · simp [x0] at h
      | succ i => rw [nth_succ]; exact nlen_zero_iff.1 e i
    · simp only [e, if_false] at h
      cases i with
      | zero => omega
      | succ i => rw [nth_succ]; exact ih (by omega)
theorem nlen_last {l:List Int} (h:nlen l≠0):nth l (nlen l - 1)≠0:=by
 induction l with
 | nil=>simp [nlen] at h
 | cons x l ih =>
  simp only [nlen] at h ⊢
  by_cases e:nlen l=0
  ·simp only [e,if_true] at h ⊢
   by_cases x0:x=0
   ·simp [x0] at h
   ·simp [x0,nth_zero]
  ·simp only [e,if_false] at h ⊢
   have:=ih e
   rw [show nlen l + 1 - 1=(nlen l - 1) + 1 from by omega,nth_succ]; exact this
theorem norm_length (l:List Int):(norm l).length=nlen l:=by
 rw [norm,List.length_take,Nat.min_eq_left (nlen_le l)]
theorem norm_nth (l:List Int) (i:Nat):nth (norm l) i=nth l i:=by
 by_cases h:i < nlen l
 ·exact nth_take h
 ·rw [nth_ge (by rw [norm_length]; omega),nlen_above (by omega)]
theorem Words.norm {l:List Int} (h:Words l):Words (norm l):=h.take _
theorem nlen_norm (l:List Int):nlen (norm l)=(norm l).length:=by
 rw [norm_length]
 apply nlen_of (by rw [norm_length]; omega)
 ·intro i hi; rw [norm_nth]; exact nlen_above hi
 ·intro h; rw [norm_nth]; exact nlen_last h
theorem val_zeros {l:List Int} (h:∀ i,nth l i=0):val l=0:=by
 induction l with
 | nil=>rfl
 | cons x l ih =>
  have h0:=h 0; rw [nth_zero] at h0
  rw [val,h0,ih fun i=>by have:=h (i + 1); rwa [nth_succ] at this]; rfl
theorem val_norm (l:List Int):val (norm l)=val l:=by
 rw [val_split l (nlen l) (nlen_le l),val_zeros (l:=l.drop (nlen l)) fun i=>by rw [nth_drop]; exact nlen_above (by omega)]
 simp [norm]
theorem isN_norm {l:List Int} (h:Words l):IsN (norm l) (val l):=⟨h.norm,nlen_norm l,val_norm l⟩
theorem val_pos {l:List Int} (h:Words l) (hn:nlen l≠0):0 < val l:=by
 induction l with
 | nil=>simp [nlen] at hn
 | cons x l ih =>
  have hx:=h.head; have hv:=val_nonneg h.tail
  simp only [val]
  by_cases e:nlen l=0
  ·simp only [nlen,e,if_true] at hn
   have:x≠0:=by intro x0; simp [x0] at hn
   omega
  ·have:=ih h.tail e; omega
theorem nlen_eq_zero_iff_val {l:List Int} (h:Words l):nlen l=0<->val l=0:=by
 constructor
 ·intro e; exact val_zeros (nlen_zero_iff.1 e)
 ·intro e
  by_cases n:nlen l=0
  ·exact n
  ·have:=val_pos h n; omega
theorem val_ge_of_nlen {l:List Int} (h:Words l) (hn:nlen l≠0):18446744073709551616 ^ (nlen l - 1)<=val l:=by
 have e:=val_norm l
 have hl:=norm_length l
 have hw:=h.norm
 have hs:=val_split (norm l) (nlen l - 1) (by omega)
 have hd:(norm l).drop (nlen l - 1)=[nth l (nlen l - 1)]:=by
  apply nth_ext
  ·simp [hl]; omega
  ·intro i hi
   simp [hl] at hi
   have:i=0:=by omega
   subst this
   rw [nth_drop,norm_nth,nth_zero]; rfl
 have h0:=val_nonneg (hw.take (nlen l - 1))
 have hx:=h.nth (nlen l - 1)
 have hne:=nlen_last hn
 have hp:(0:Int) < 18446744073709551616 ^ (nlen l - 1):=Int.pow_pos (by decide)
 rw [hd,val_single] at hs
 have:18446744073709551616 ^ (nlen l - 1) * 1<=18446744073709551616 ^ (nlen l - 1) * nth l (nlen l - 1):=Int.mul_le_mul_of_nonneg_left (by omega) (Int.le_of_lt hp)
 omega
theorem val_lt_nlen {l:List Int} (h:Words l):val l < 18446744073709551616 ^ nlen l:=by
 have:=val_lt h.norm
 rwa [val_norm,norm_length] at this
theorem val_inj:∀ {a b:List Int},Words a->Words b->a.length=b.length->val a=val b->a=b
 | [],[],_,_,_,_=>rfl
 | x :: a,y :: b,ha,hb,hl,hv=>by
  have h1:=ha.head; have h2:=hb.head
  simp only [val] at hv
  have e:x=y:=by omega
  have e2:val a=val b:=by omega
  rw [e,val_inj ha.tail hb.tail (by simpa using hl) e2]
theorem pow_mono {a b:Nat} (h:a<=b):(18446744073709551616:Int) ^ a<=18446744073709551616 ^ b:=by
 obtain ⟨d,rfl⟩:=Nat.exists_eq_add_of_le h
 rw [Int.pow_add]
 have hp:(0:Int) < 18446744073709551616 ^ a:=Int.pow_pos (by decide)
 have hq:(0:Int) < 18446744073709551616 ^ d:=Int.pow_pos (by decide)
 have:(18446744073709551616:Int) ^ a * 1<=18446744073709551616 ^ a * 18446744073709551616 ^ d:=Int.mul_le_mul_of_nonneg_left (by omega) (Int.le_of_lt hp)
 omega
theorem val_lt_of_nlen_lt {a b:List Int} (ha:Words a) (hb:Words b) (h:nlen a < nlen b):val a < val b:=by
 have h1:=val_lt_nlen ha
 have h2:=val_ge_of_nlen hb (by omega)
 have:=pow_mono (show nlen a<=nlen b - 1 by omega)
 omega
theorem nlen_eq_of_val {a b:List Int} (ha:Words a) (hb:Words b) (h:val a=val b):nlen a=nlen b:=by
 rcases Nat.lt_trichotomy (nlen a) (nlen b) with h1 | h1 | h1
 ·have:=val_lt_of_nlen_lt ha hb h1; omega
 ·exact h1
 ·have:=val_lt_of_nlen_lt hb ha h1; omega
theorem isN_unique {a b:List Int} {n:Int} (ha:IsN a n) (hb:IsN b n):a=b:=by
 apply val_inj ha.1 hb.1
 ·rw [<- ha.2.1,<- hb.2.1]; exact nlen_eq_of_val ha.1 hb.1 (ha.2.2.trans hb.2.2.symm)
 ·exact ha.2.2.trans hb.2.2.symm
end Lim
end
section
open Go.RowKit Lim
def Cells (w:World) (ao:Option Addr) (l:List Int):Prop :=
 l=[]\/∃ b o,ao=some ⟨b,o,none⟩/\∀ i,i < l.length->w.cell? ⟨b,o + i,none⟩=some (.int .u64 (nth l i))
theorem trim_any (ao:Option Addr) (n c:Nat) (l:List Int) (w:World) (hl:l.length=n) (hc:n<=c) (hb:n<=4398046511104) (hcell:Cells w ao l) :
  Calls Tryz.prog 81 #[.slice ao n c] w fun e w'=>e=.returned (.slice ao (nlen l) (nlen l))/\w'=w:=by
 go_enter Tryz.func81,Tryz.ntmps81
 go_wp2
 go_loop [3] (fun t=>∃ k:Nat,k<=n/\t=.int .i64 k/\Hid (∀ i,k<=i->nth l i=0)) (fun t=>(intOf t).toNat)
 case atStart=>exact ⟨n,Nat.le_refl _,rfl,fun i hi=>nth_ge (by omega)⟩
 case round =>
  obtain ⟨k,hk,rfl,hz⟩:=hrel
  by_cases hk0:0 < k
  ·rcases hcell with e | ⟨b,o,rfl,hcell⟩
   ·subst e; simp at hl; omega
   ·have hcx:=hcell (k - 1) (by omega)
    have hcy:w.cell? ⟨b,o + k - 1,none⟩=some (.int .u64 (nth l (k - 1))):=by rw [<- hcx]; congr 2; omega
    clear hcell
    go_wp2
    ·go_round
     case rel=>exact ⟨k - 1,by omega,by go_num,fun i hi=>by
      by_cases e:i=k - 1
      ·subst e; exact beq_iff_eq.1 (by assumption)
      ·exact hz.out i (by omega)⟩
     case measure=>simp [intOf]; omega
    ·go_ret
     rw [nlen_of (k:=k) (by omega) hz.out (fun _=>beq_eq_false_iff_ne.1 (by assumption))]
     exact ⟨rfl,rfl⟩
  ·go_wp2
   go_ret
   rw [nlen_of (k:=k) (by omega) hz.out (fun _=>by omega)]
   exact ⟨rfl,rfl⟩
end
section
open Go.RowKit Lim
def bor (x y:Int):Int:=if x < y then 1 else 0
theorem add64 (x y:Int) (hx:0<=x) (hy:0<=y) (w:World):(callFunc 134 #[.int .u64 x,.int .u64 y,.int .u64 0]).run Tryz.prog w =
  .ok (.value (.tuple #[.int .u64 ((x + y) % 18446744073709551616),.int .u64 ((x + y) / 18446744073709551616)])) w:=by
 obtain ⟨x,rfl⟩:=Int.eq_ofNat_of_zero_le hx
 obtain ⟨y,rfl⟩:=Int.eq_ofNat_of_zero_le hy
 rw [run_callFunc_extern Tryz.func134 (by kernel_rfl) (by kernel_rfl) (by kernel_rfl) (e:=add64Entry) (by kernel_rfl),run_add64 (P:=Tryz.prog) x y 0 (by omega) (by omega) (by omega) (by omega),Int.add_zero]
 rfl
theorem add64_m (x y:Int) (hx:0<=x) (w:World):(callFunc 134 #[.int .u64 x,.int .u64 (y % 18446744073709551616),.int .u64 0]).run Tryz.prog w =
  .ok (.value (.tuple #[.int .u64 ((x + y % 18446744073709551616) % 18446744073709551616),.int .u64 ((x + y % 18446744073709551616) / 18446744073709551616)])) w :=
 add64 x _ hx (Int.emod_nonneg _ (by decide)) w
theorem sub64 (x y:Int) (hx:0<=x) (hx':x < 18446744073709551616) (hy:0<=y) (hy':y < 18446744073709551616) (w:World):(callFunc 135 #[.int .u64 x,.int .u64 y,.int .u64 0]).run Tryz.prog w =
  .ok (.value (.tuple #[.int .u64 ((x - y) % 18446744073709551616),.int .u64 (bor x y)])) w:=by
 obtain ⟨x,rfl⟩:=Int.eq_ofNat_of_zero_le hx
 obtain ⟨y,rfl⟩:=Int.eq_ofNat_of_zero_le hy
 have this:(callFunc 135 #[.int .u64 (x:Int),.int .u64 (y:Int),.int .u64 0]).run Tryz.prog w =
   .ok (.value (.tuple #[.int .u64 (((x + 18446744073709551616 - y - 0) % 18446744073709551616:Nat):Int),.int .u64 ((if x < y + 0 then 1 else 0:Nat):Int)])) w:=by kernel_rfl
 rw [this]
 have e1:(((x + 18446744073709551616 - y - 0) % 18446744073709551616:Nat):Int)=((x:Int) - y) % 18446744073709551616:=by omega
 have e2:((if x < y + 0 then 1 else 0:Nat):Int)=bor x y:=by unfold bor; split<;>split<;>omega
 rw [e1,e2]
theorem ret2 {k k':IntKind} {a b c d:Int} (h:a=b) (h':c=d):Ending.returned (.tuple #[.int k a,.int k' c])=.returned (.tuple #[.int k b,.int k' d]):=by rw [h,h']
theorem and32 (z:Int) (h0:0<=z) (h1:z < 18446744073709551616):bits .and .u64 z 4294967295=z % 4294967296:=and_low32 z h0 h1
theorem mul64 (x y:Int) (hx:0<=x) (hx':x < 18446744073709551616) (hy:0<=y) (hy':y < 18446744073709551616) (w:World) :
  Calls Tryz.prog 133 #[.int .u64 x,.int .u64 y] w fun e w'=>e=.returned (.tuple #[.int .u64 (x * y / 18446744073709551616),.int .u64 (x * y % 18446744073709551616)])/\w'=w:=by
 go_enter Tryz.func133,Tryz.ntmps133
 go_wp2
 go_ret2
 refine ⟨ret2 ?_ ?_,rfl⟩
 ·show IntKind.u64.wrap (IntKind.u64.wrap (IntKind.u64.wrap (x / 4294967296 * (y / 4294967296)) + IntKind.u64.wrap (IntKind.u64.wrap (x / 4294967296 * bits BinOp.and IntKind.u64 y 4294967295) + IntKind.u64.wrap (bits BinOp.and IntKind.u64 x 4294967295 * bits BinOp.and IntKind.u64 y 4294967295) / 4294967296) / 4294967296) + IntKind.u64.wrap (bits BinOp.and IntKind.u64 (IntKind.u64.wrap (IntKind.u64.wrap (x / 4294967296 * bits BinOp.and IntKind.u64 y 4294967295) + IntKind.u64.wrap (bits BinOp.and IntKind.u64 x 4294967295 * bits BinOp.and IntKind.u64 y 4294967295) / 4294967296)) 4294967295 + IntKind.u64.wrap (bits BinOp.and IntKind.u64 x 4294967295 * (y / 4294967296))) / 4294967296)=_
  simp only [IntKind.wrap_u64]
  rw [and32 x hx hx',and32 y hy hy',and32 _ (Int.emod_nonneg _ (by decide)) (Int.emod_lt_of_pos _ (by decide))]
  exact mul64_arith x y hx hx' hy hy'
 ·show IntKind.u64.wrap (x * y)=_
  rw [IntKind.wrap_u64]
theorem mul64_n (x y:Int) (hx:0<=x) (hx':x < 18446744073709551616) (hy:0<=y) (hy':y < 18446744073709551616) (w:World) :
  Calls Tryz.prog 133 #[.int .u64 x,.int .u64 y] w fun e w'=>∃ hi lo:Int,e=.returned (.tuple #[.int .u64 hi,.int .u64 lo])/\0<=hi/\hi<=18446744073709551614/\0<=lo/\lo < 18446744073709551616/\Hid (hi * 18446744073709551616 + lo=x * y)/\w'=w:=by
 refine (mul64 x y hx hx' hy hy' w).mono ?_
 rintro e w' ⟨rfl,rfl⟩
 have h0:0<=x * y:=Int.mul_nonneg hx hy
 have h1:x * y<=18446744073709551615 * 18446744073709551615:=Int.mul_le_mul (by omega) (by omega) hy (by decide)
 exact ⟨_,_,rfl,by omega,by omega,by omega,by omega,by show _=_; omega,rfl⟩
end
section
open Go.RowKit Lim
structure At (w:World) (ao:Option Addr) (b o:Nat) (l:List Int):Prop where
 loc:l=[]\/ao=some ⟨b,o,none⟩
 cell:∀ i,i < l.length->w.cell? ⟨b,o + i,none⟩=some (.int .u64 (nth l i))
theorem At.cells {w:World} {ao:Option Addr} {b o:Nat} {l:List Int} (h:At w ao b o l):Cells w ao l:=by
 rcases h.loc with e | e
 ·exact .inl e
 ·exact .inr ⟨b,o,e,h.cell⟩
def Free (w:World) (b o n:Nat):Prop:=∀ i,i < n->w.frozen? ⟨b,o + i,none⟩=false
structure Wr (b o n:Nat) (w w':World):Prop where
 os:w'.os=w.os
 tape:w'.tape=w.tape
 output:w'.output=w.output
 size:w'.heap.size=w.heap.size
 block:∀ k,k≠b->w'.heap[k]? = w.heap[k]?
 cell:∀ i,(i < o\/o + n<=i)->w'.cell? ⟨b,i,none⟩=w.cell? ⟨b,i,none⟩
 frozen:∀ i,w'.frozen? ⟨b,i,none⟩=w.frozen? ⟨b,i,none⟩
theorem Wr.refl (b o n:Nat) (w:World):Wr b o n w w:=⟨rfl,rfl,rfl,rfl,fun _ _=>rfl,fun _ _=>rfl,fun _=>rfl⟩
theorem Wr.trans {b o n:Nat} {w w1 w2:World} (h:Wr b o n w w1) (k:Wr b o n w1 w2):Wr b o n w w2 :=
 ⟨k.os.trans h.os,k.tape.trans h.tape,k.output.trans h.output,k.size.trans h.size,fun i hi=>(k.block i hi).trans (h.block i hi),fun i hi=>(k.cell i hi).trans (h.cell i hi),fun i=>(k.frozen i).trans (h.frozen i)⟩
theorem Wr.mono {b o n o' n':Nat} {w w':World} (h:Wr b o n w w') (h1:o'<=o) (h2:o + n<=o' + n'):Wr b o' n' w w' :=
 ⟨h.os,h.tape,h.output,h.size,h.block,fun i hi=>h.cell i (by omega),h.frozen⟩
theorem Wr.setCell {b o n:Nat} {w w1:World} (h:Wr b o n w w1) {i:Nat} (h1:o<=i) (h2:i < o + n) (v:Value):Wr b o n w (w1.setCell ⟨b,i,none⟩ v) :=
 h.trans ⟨rfl,rfl,rfl,by simp [World.setCell],fun k hk=>Below.heap_setCell _ _ _ _ hk,fun j hj=>by
   simp only [World.cell?,World.setCell,Array.getElem?_modify,if_true]
   cases hh:w1.heap[b]? with
   | none=>simp
   | some ob =>
    cases ob<;>simp
    rw [Array.getElem?_setIfInBounds,if_neg (by omega)],fun j=>by
   simp only [World.frozen?,World.setCell,Array.getElem?_modify,if_true]
   cases hh:w1.heap[b]? with
   | none=>simp
   | some ob=>cases ob<;>simp⟩
theorem Wr.other {b o n:Nat} {w w':World} (h:Wr b o n w w') {k i:Nat} (hk:k≠b):w'.cell? ⟨k,i,none⟩=w.cell? ⟨k,i,none⟩:=World.cell?_of_block (w:=w) (h.block k hk)
theorem Wr.below {b o n B:Nat} {w w':World} (h:Wr b o n w w') (hB:B<=b):Below B w w' :=
 ⟨h.os,h.tape,h.output,by rw [h.size]; exact Nat.le_refl _,fun k hk=>h.block k (by omega)⟩
theorem Wr.free {b o n:Nat} {w w':World} (h:Wr b o n w w') {b' o' n':Nat} (k:Free w b' o' n'):Free w' b' o' n':=by
 intro i hi
 by_cases e:b'=b
 ·subst e; rw [h.frozen]; exact k i hi
 ·rw [World.frozen?_of_block (w:=w) (h.block b' e)]; exact k i hi
theorem At.wr {b o n:Nat} {w w':World} (h:Wr b o n w w') {ao:Option Addr} {b' o':Nat} {l:List Int} (k:At w ao b' o' l) (hb:l=[]\/b'≠b):At w' ao b' o' l :=
 ⟨k.loc,fun i hi=>by
  rcases hb with e | e
  ·subst e; simp at hi
  ·rw [h.other e]; exact k.cell i hi⟩
theorem At.below {B:Nat} {w w':World} (h:Below B w w') {ao:Option Addr} {b o:Nat} {l:List Int} (k:At w ao b o l) (hb:l=[]\/b < B):At w' ao b o l :=
 ⟨k.loc,fun i hi=>by
  rcases hb with e | e
  ·subst e; simp at hi
  ·rw [h.cell (p:=⟨b,o + i,none⟩) e]; exact k.cell i hi⟩
theorem cell_lt {w:World} {b o:Nat} {v:Value} (h:w.cell? ⟨b,o,none⟩=some v):b < w.heap.size:=by
 simp only [World.cell?] at h
 by_cases hb:b < w.heap.size
 ·exact hb
 ·rw [Array.getElem?_eq_none (by omega)] at h; simp at h
theorem At.lt {w:World} {ao:Option Addr} {b o:Nat} {l:List Int} (k:At w ao b o l):l=[]\/b < w.heap.size:=by
 cases l with
 | nil=>exact .inl rfl
 | cons x l=>exact .inr (cell_lt (k.cell 0 (by simp)))
theorem At.keep {w w':World} (h:Below w.heap.size w w') {ao:Option Addr} {b o:Nat} {l:List Int} (k:At w ao b o l):At w' ao b o l:=k.below h k.lt
theorem At.setCell {w : World} {ao : Option Addr} {b o : Nat} {l : List Int} (k : At w ao b o l) {i : Nat} (hi : i < l.length) (x : Int) : At (w.setCell ⟨b, o + i, none⟩ (.int .u64 x)) ao b o (l.set i x) :=
  ⟨by rcases k.loc with e | e
      · subst e; simp at hi
      · exact .inr e, fun j hj => by
    rw [List.length_set] at hj
    have hc := k.cell j hj
    rw [nth_set hi]
    have hci := k.cell i hi
    simp only [World.cell?, World.setCell, Array.getElem?_modify, if_true] at hc hci ⊢
    cases hh : w.heap[b]? with
    | none => rw [hh] at hc; simp at hc
    | some ob =>
      rw [hh] at hc hci
      cases ob with
      | cells c e f =>
        simp at hc hci ⊢
        rw [Array.getElem?_setIfInBounds]
        by_cases e : j = i
        · subst e
          obtain ⟨hlt, _⟩ := Array.getElem?_eq_some_iff.1 hci
          simp [hlt]
        · rw [if_neg (by omega), if_neg e]; exact hc
      | _ => simp at hc⟩
theorem At.drew {w:World} {ao:Option Addr} {b o:Nat} {l:List Int} (h:At w ao b o l):At w.drew ao b o l:=⟨h.loc,h.cell⟩
theorem Free.drew {w:World} {b o n:Nat} (h:Free w b o n):Free w.drew b o n:=h
theorem Wr.drew {b o n:Nat} {w w':World} (h:Wr b o n w w'):Wr b o n w w'.drew:=⟨h.os,h.tape,h.output,h.size,h.block,h.cell,h.frozen⟩
theorem At.drewN {w:World} {ao:Option Addr} {b o:Nat} {l:List Int} (h:At w ao b o l) (n:Nat):At (w.drewN n) ao b o l:=⟨h.loc,h.cell⟩
theorem Wr.drewN {b o n:Nat} {w w':World} (h:Wr b o n w w') (k:Nat):Wr b o n w (w'.drewN k):=⟨h.os,h.tape,h.output,h.size,h.block,h.cell,h.frozen⟩
def patch (l:List Int) (k:Nat) (m:List Int):List Int:=l.take k ++ (m ++ l.drop (k + m.length))
theorem patch_length {l m:List Int} {k:Nat} (h:k + m.length<=l.length):(patch l k m).length=l.length:=by simp [patch]; omega
theorem patch_words {l m:List Int} {k:Nat} (hl:Words l) (hm:Words m):Words (patch l k m):=(hl.take k).append (hm.append (hl.drop _))
theorem patch_nth_in {l m:List Int} {k i:Nat} (h:k + m.length<=l.length) (hi:i < m.length):nth (patch l k m) (k + i)=nth m i:=by
 have e:(l.take k).length=k:=by simp; omega
 rw [patch,nth_append_right (by omega),e,Nat.add_sub_cancel_left,nth_append_left hi]
theorem patch_nth_out {l m:List Int} {k i:Nat} (h:k + m.length<=l.length) (hi:i < k\/k + m.length<=i):nth (patch l k m) i=nth l i:=by
 have e:(l.take k).length=k:=by simp; omega
 rcases hi with hi | hi
 ·rw [patch,nth_append_left (by omega),nth_take hi]
 ·rw [patch,nth_append_right (by omega),e,nth_append_right (by omega),nth_drop]; congr 1; omega
theorem patch_val {l m:List Int} {k:Nat} (h:k + m.length<=l.length):val (patch l k m)=val l + 18446744073709551616 ^ k * (val m - val ((l.drop k).take m.length)):=by
 have e:(l.take k).length=k:=by simp; omega
 have h1:=val_split l k (by omega)
 have h2:=val_split (l.drop k) m.length (by simp; omega)
 rw [List.drop_drop] at h2
 rw [patch,val_append,val_append,e,h1,h2]
 grind
theorem At.patch {w w' : World} {ao ao' : Option Addr} {b o k n : Nat} {l m : List Int} (h : At w ao b o l) (hw : Wr b (o + k) n w w') (hm : At w' ao' b (o + k) m) (hn : m.length = n) (hk : k + n ≤ l.length) : At w' ao b o (patch l k m) :=
  ⟨by rcases h.loc with e | e
      · left; subst e; simp at hk; simp [Go.Proofs.YtlbndpkdkdgggaaGreatDoor.patch, List.eq_nil_of_length_eq_zero (show m.length = 0 by omega)]
      · exact .inr e, fun i hi => by
    rw [patch_length (by omega)] at hi
    by_cases hin : k ≤ i ∧ i < k + n
    · obtain ⟨j, rfl⟩ := Nat.exists_eq_add_of_le hin.1
      rw [patch_nth_in (by omega) (by omega), ← hm.cell j (by omega), Nat.add_assoc]
    · rw [patch_nth_out (by omega) (by omega), hw.cell _ (by omega)]; exact h.cell i hi⟩
theorem At.window {w:World} {ao:Option Addr} {b o:Nat} {l:List Int} (h:At w ao b o l) (k n:Nat):At w (some ⟨b,o + k,none⟩) b (o + k) ((l.drop k).take n) :=
 ⟨.inr rfl,fun i hi=>by
  simp only [List.length_take,List.length_drop] at hi
  rw [nth_take (by omega),nth_drop,Nat.add_assoc]; exact h.cell _ (by omega)⟩
theorem Free.window {w:World} {b o n:Nat} (h:Free w b o n) {k m:Nat} (hk:k + m<=n):Free w b (o + k) m:=fun i hi=>by
 rw [Nat.add_assoc]; exact h _ (by omega)
theorem At.sub {w : World} {ao : Option Addr} {b o : Nat} {l : List Int} (k : At w ao b o l) (n : Nat) : At w ao b o (l.take n) :=
  ⟨by rcases k.loc with e | e
      · subst e; exact .inl (by simp)
      · exact .inr e, fun i hi => by
    rw [List.length_take] at hi
    rw [nth_take (by omega)]; exact k.cell i (by omega)⟩
end
section
open Go.RowKit Lim
theorem info_u64:(Tryz.prog.info? 31).map (fun i=>(i.zero,i.size,i.bytes))=some (some (.int .u64 0),1,8):=by kernel_rfl
theorem under_nat:Tryz.prog.underlying 33=some (.slice 31):=by kernel_rfl
def Row (w:World) (g:Nat) (l:List Int):Prop:=w.heap[g]? = some (.cells (l.map (Value.int .u64)).toArray 31 (0,0))
theorem Row.at {w:World} {g:Nat} {l:List Int} (h:Row w g l):At w (some ⟨g,0,none⟩) g 0 l :=
 ⟨.inr rfl,fun i hi=>by
  unfold Row at h
  simp only [World.cell?,h]
  simp [nth_eq hi,hi]⟩
theorem Row.free {w:World} {g:Nat} {l:List Int} (h:Row w g l) (o n:Nat):Free w g o n:=by
 intro i _
 unfold Row at h
 simp [World.frozen?,h]
theorem Row.lt {w:World} {g:Nat} {l:List Int} (h:Row w g l):g < w.heap.size:=(Array.getElem?_eq_some_iff.1 h).1
structure NewV (w w':World) (v:Value) (l:List Int):Prop where
 is:∃ ao b o c,v=.slice ao l.length c/\l.length<=c/\w.heap.size<=b/\At w' ao b o l/\Free w' b o l.length
theorem made_u64 (n:Nat):madeCells (Value.int .u64 0).cells n=((List.replicate n 0).map (Value.int .u64)).toArray:=by
 apply Array.ext
 ·simp [size_madeCells]
 ·intro j h1 h2
  simp [madeCells,Value.cells,Nat.mod_one]
theorem wpList_makeN {w:World} {ops:Array Oper} {rest:List Oper} {o:Oper} {a:Act} {Q:Exit->Act->World->Prop}
  (hg:o.guard=none) (l c:Operand) (hop:o.op=Op.makeSlice 33 l c) (n:Nat) (L C:Int) (hl:a.eval l=.int .i64 L) (hc:a.eval c=.int .i64 C) (hL:L=(n:Int)) (hC:C=(n:Int)) (hn:n<=17592186044416)
  (hK:∀ w',Row w' w.heap.size (List.replicate n 0)->Below w.heap.size w w'->w'.heap.size=w.heap.size + 1->wpList Tryz.prog ops Q rest (a.put o.dst (.slice (some ⟨w.heap.size,0,none⟩) n n)) w') :
  wpList Tryz.prog ops Q (o :: rest) a w:=by
 obtain ⟨i,hi,hz,hs,hb⟩:=info_parts info_u64
 refine wpList_plain hg fun K hK' => ?_
 have hrun:=run_make (P:=Tryz.prog) w 33 31 i (.int .u64 0) under_nat hi hz .i64 .i64 (n:Int) (n:Int) (by omega) (by omega) (by rw [hb]; omega) (by omega)
 subst hL
 subst hC
 unfold Oper.wp
 simp only [execOp,hop,hl,hc]
 simp [hrun,Result.andThen]
 refine hK' _ _ (hK _ ?_ ?_ ?_)
 ·show (w.heap.push _)[w.heap.size]? = _
  rw [Array.getElem?_push_size,hs,Nat.mul_one,made_u64]
 ·exact (Below.refl _ _).alloc (Nat.le_refl _) _
 ·simp
theorem wpList_copyN {w:World} {ops:Array Oper} {rest:List Oper} {o:Oper} {a:Act} {Q:Exit->Act->World->Prop} (hgd:o.guard=none) (d s:Operand)
  (ho:o.op=.call { callee:=.builtin .copy,args:=#[d,s],argTypes:=#[33,33] })
  (g dLen dCap sLen sCap:Nat) (sp:Option Addr) (hd:a.eval d=.slice (some ⟨g,0,none⟩) dLen dCap) (hs:a.eval s=.slice sp sLen sCap)
  (lz ls:List Int) (hrow:Row w g lz) (hdl:lz.length=dLen) (b' o':Nat) (hsl:ls.length=sLen) (hle:sLen<=dLen) (hat:At w sp b' o' ls)
  (h:∀ w',Row w' g (ls ++ lz.drop sLen)->Wr g 0 dLen w w'->wpList Tryz.prog ops Q rest (a.put o.dst (goInt sLen)) w'):wpList Tryz.prog ops Q (o :: rest) a w:=by
 obtain ⟨i,hi,hz,hsz,hb⟩:=info_parts info_u64
 have hinf:(Tryz.prog.info? 31).map (·.size)=some 1:=by rw [hi]; simp [hsz]
 by_cases h0:sLen=0
 ·have e0:ls=[]:=List.eq_nil_of_length_eq_zero (by omega)
  subst e0
  refine wpList_copy_nothing hgd d s _ _ ho _ under_nat hinf _ sp dLen dCap sLen sCap hd hs (by subst h0; exact Nat.zero_min _) ?_
  have:=h w (by rw [h0]; simpa using hrow) (Wr.refl _ _ _ _)
  rwa [h0] at this
 ·obtain rfl:sp=some ⟨b',o',none⟩:=by
   rcases hat.loc with e | e
   ·subst e; simp at hsl; omega
   ·exact e
  have hmin:Nat.min sLen dLen=sLen:=Nat.min_eq_left hle
  have hlen:(ls.map (Value.int .u64)).length=sLen:=by simp [hsl]
  refine wpList_copy_own hgd d s _ _ ho _ under_nat hinf g 0 dLen dCap ⟨b',o',none⟩ sLen sCap hd hs _ _ hrow (ls.map (Value.int .u64)) (by rw [hmin,hlen]) ?_ (by simp [hsl,hdl]; omega) (ints_oneCell _ _) ?_
  ·intro j v hv
   rw [List.getElem?_map] at hv
   have hj:j < ls.length:=by
    rcases Nat.lt_or_ge j ls.length with hj | hj
    ·exact hj
    ·rw [List.getElem?_eq_none hj] at hv; simp at hv
   rw [List.getElem?_eq_getElem hj] at hv
   simp at hv
   subst hv
   have:=hat.cell j hj
   rw [nth_eq hj] at this
   rw [<- this]
   by_cases hj0:j=0
   ·subst hj0; exact congrArg w.cell? (by simp [Addr.add])
   ·exact congrArg w.cell? (by simp [Addr.add,hj0])
  ·rw [hlen]
   have hR:Row (w.setRow g (List.take 0 (List.map (Value.int .u64) lz).toArray.toList ++ (List.map (Value.int .u64) ls ++ List.drop (0 + sLen) (List.map (Value.int .u64) lz).toArray.toList)).toArray) g (ls ++ lz.drop sLen):=by
    unfold Row
    rw [setRow_heap w g _ _ _ _ hrow,Nat.zero_add]
    simp only [List.take_zero,List.nil_append,<- List.map_drop,<- List.map_append]
   refine h _ hR ⟨rfl,rfl,rfl,by simp [World.setRow],fun k hk=>setRow_other w g k _ hk,fun j hj => ?_,fun j => ?_⟩
   ·have h1:w.heap[g]? = _:=hrow
    have h2:(w.setRow g (List.take 0 (List.map (Value.int .u64) lz).toArray.toList ++ (List.map (Value.int .u64) ls ++ List.drop (0 + sLen) (List.map (Value.int .u64) lz).toArray.toList)).toArray).heap[g]? = _:=hR
    simp only [World.cell?,h1,h2]
    simp
    rw [List.getElem?_eq_none (by simp; omega),List.getElem?_eq_none (by omega)]
    rfl
   ·have h1:w.heap[g]? = _:=hrow
    have h2:(w.setRow g (List.take 0 (List.map (Value.int .u64) lz).toArray.toList ++ (List.map (Value.int .u64) ls ++ List.drop (0 + sLen) (List.map (Value.int .u64) lz).toArray.toList)).toArray).heap[g]? = _:=hR
    simp only [World.frozen?,h1,h2]
end
section
open Go.RowKit Lim
def sgn (x y:Int):Int:=if x < y then -1 else if y < x then 1 else 0
theorem sgn_lt {x y:Int} (h:x < y):sgn x y = -1:=by simp [sgn,h]
theorem sgn_gt {x y:Int} (h:y < x):sgn x y=1:=by simp only [sgn]; rw [if_neg (by omega),if_pos h]
theorem sgn_eq {x y:Int} (h:x=y):sgn x y=0:=by simp [sgn,h]
theorem val_cons (l:List Int):val l=nth l 0 + 18446744073709551616 * val l.tail:=by
 cases l with
 | nil=>simp [val,nth]
 | cons x l=>simp [val,nth]
theorem nth_tail (l:List Int) (i:Nat):nth l.tail i=nth l (i + 1):=by
 cases l with
 | nil=>simp [nth]
 | cons x l=>simp [nth]
theorem Lim.Words.tl {l:List Int} (h:Words l):Words l.tail:=fun x hx=>h x (List.mem_of_mem_tail hx)
theorem val_ext:∀ {a b:List Int},(∀ i,nth a i=nth b i)->val a=val b
 | [],b,h=>by rw [val_zeros (l:=b) fun i=>by rw [<- h i,nth_nil]]; rfl
 | x :: a,b,h=>by
  rw [val_cons (x :: a),val_cons b,h 0,List.tail_cons,val_ext (a:=a) (b:=b.tail) fun i=>by rw [nth_tail,<- h (i + 1),nth_succ]]
theorem val_lt_at:∀ (h:Nat) {a b:List Int},Words a->Words b->(∀ i,h < i->nth a i=nth b i)->nth a h < nth b h->val a < val b
 | 0,a,b,_,_,he,hl=>by
  rw [val_cons a,val_cons b,val_ext (a:=a.tail) (b:=b.tail) fun i=>by rw [nth_tail,nth_tail]; exact he _ (by omega)]
  omega
 | h + 1,a,b,ha,hb,he,hl=>by
  have:=val_lt_at h ha.tl hb.tl (fun i hi=>by rw [nth_tail,nth_tail]; exact he _ (by omega)) (by rw [nth_tail,nth_tail]; exact hl)
  have h1:=ha.nth 0; have h2:=hb.nth 0
  rw [val_cons a,val_cons b]
  omega
theorem sgn_at {a b:List Int} (ha:Words a) (hb:Words b) (h:Nat) (he:∀ i,h < i->nth a i=nth b i) (hne:nth a h≠nth b h):sgn (nth a h) (nth b h)=sgn (val a) (val b):=by
 rcases Int.lt_or_gt_of_ne hne with hl | hl
 ·rw [sgn_lt hl,sgn_lt (val_lt_at h ha hb he hl)]
 ·rw [sgn_gt hl,sgn_gt (val_lt_at h hb ha (fun i hi=>(he i hi).symm) hl)]
theorem sgn_nlen {a b:List Int} (ha:Words a) (hb:Words b) (hne:nlen a≠nlen b):sgn (nlen a) (nlen b)=sgn (val a) (val b):=by
 rcases Nat.lt_or_gt_of_ne hne with hl | hl
 ·rw [sgn_lt (by omega),sgn_lt (val_lt_of_nlen_lt ha hb hl)]
 ·rw [sgn_gt (by omega),sgn_gt (val_lt_of_nlen_lt hb ha hl)]
theorem compare_int (x y:Int) (w:World):Calls Tryz.prog 114 #[.int .i64 x,.int .i64 y] w fun e w'=>e=.returned (.int .i64 (sgn x y))/\w'=w:=by
 rcases Int.lt_trichotomy x y with h | h | h
 ·rw [sgn_lt h]
  go_enter Tryz.func114,Tryz.ntmps114
  go_wp2
  go_ret
  exact ⟨rfl,rfl⟩
 ·rw [sgn_eq h]; subst h
  go_enter Tryz.func114,Tryz.ntmps114
  go_wp2
  go_ret
  exact ⟨rfl,rfl⟩
 ·rw [sgn_gt h]
  have h':¬ x < y:=by omega
  go_enter Tryz.func114,Tryz.ntmps114
  go_wp2
  go_ret
  exact ⟨rfl,rfl⟩
theorem compare_u64 (x y:Int) (w:World):Calls Tryz.prog 115 #[.int .u64 x,.int .u64 y] w fun e w'=>e=.returned (.int .i64 (sgn x y))/\w'=w:=by
 rcases Int.lt_trichotomy x y with h | h | h
 ·rw [sgn_lt h]
  go_enter Tryz.func115,Tryz.ntmps115
  go_wp2
  go_ret
  exact ⟨rfl,rfl⟩
 ·rw [sgn_eq h]; subst h
  go_enter Tryz.func115,Tryz.ntmps115
  go_wp2
  go_ret
  exact ⟨rfl,rfl⟩
 ·rw [sgn_gt h]
  have h':¬ x < y:=by omega
  go_enter Tryz.func115,Tryz.ntmps115
  go_wp2
  go_ret
  exact ⟨rfl,rfl⟩
theorem ret1 {k:IntKind} {a b:Int} (h:a=b):Ending.returned (.int k a)=.returned (.int k b):=by rw [h]
theorem cmp_any (ao:Option Addr) (n c b o:Nat) (ao':Option Addr) (n' c' b' o':Nat) (l l':List Int) (w:World) (hl:l.length=n) (hl':l'.length=n') (hc:n<=c) (hc':n'<=c') (hbig:n<=1099511627776) (hbig':n'<=1099511627776)
  (wl:Words l) (wl':Words l') (ha:At w ao b o l) (ha':At w ao' b' o' l') :
  Calls Tryz.prog 89 #[.slice ao n c,.slice ao' n' c'] w fun e w'=>e=.returned (.int .i64 (sgn (val l) (val l')))/\Below w.heap.size w w':=by
 have hn:=nlen_le l
 have hn':=nlen_le l'
 have t1:=trim_any ao n c l w hl hc (by omega) ha.cells
 have t2:=trim_any ao' n' c' l' w hl' hc' (by omega) ha'.cells
 have hab:∀ i,nlen l<=i->nth l i=0:=fun i hi=>nlen_above hi
 have hab':∀ i,nlen l'<=i->nth l' i=0:=fun i hi=>nlen_above hi
 have hsn:Hid (nlen l≠nlen l'->sgn (nlen l) (nlen l')=sgn (val l) (val l')):=sgn_nlen wl wl'
 have H0:Hid (∀ i,nlen l<=i->nth l i=0):=hab
 have H0':Hid (∀ i,nlen l'<=i->nth l' i=0):=hab'
 clear hab hab'
 generalize nlen l=N at *
 generalize nlen l'=N' at *
 go_enter Tryz.func89,Tryz.ntmps89
 go_wp2_with fail
 refine t1.mono ?_
 rintro e w1 ⟨rfl,rfl⟩
 go_wp2_with fail
 refine t2.mono ?_
 rintro e w2 ⟨rfl,rfl⟩
 clear t1 t2
 by_cases hne:N=N'
 ·subst hne
  go_wp2_with fail
  go_loopw [25] (fun ti wr=>∃ k:Nat,k<=N/\ti=.int .i64 k/\Hid (∀ i,N - k<=i->nth l i=nth l' i)/\Below w2.heap.size w2 wr) (fun ti _=>N - (intOf ti).toNat)
  case atStart=>exact ⟨0,Nat.zero_le _,rfl,fun i hi=>by rw [H0.out i (by omega),H0'.out i (by omega)],Below.refl _ _⟩
  case round =>
   obtain ⟨k,hk,rfl,hz,hbe⟩:=hrel
   by_cases hlt:k < N
   ·have hat:=ha.keep hbe
    have hat':=ha'.keep hbe
    rcases ha.loc with e | rfl
    ·subst e; simp at hn; omega
    rcases ha'.loc with e | rfl
    ·subst e; simp at hn'; omega
    obtain ⟨h,hh⟩:∃ h:Nat,N=h + 1 + k:=⟨N - 1 - k,by omega⟩
    have q1:=hat.cell h (by omega)
    have q2:=hat'.cell h (by omega)
    have HN:Hid (N=h + 1 + k):=hh
    have hidx:(N:Int) - 1 - k=h:=by omega
    have HZ:Hid (∀ i,h < i->nth l i=nth l' i):=fun i hi=>hz.out i (by omega)
    have HS:Hid (nth l h≠nth l' h->sgn (nth l h) (nth l' h)=sgn (val l) (val l')):=sgn_at wl wl' h HZ.out
    have hh0:(h:Int) < N:=by omega
    clear hh hz H0 H0' hsn ha ha' hat hat' wl wl'
    generalize hx:nth l h=x at *
    generalize hy:nth l' h=y at *
    have HX:Hid (x=y->nth l h=nth l' h):=fun e=>hx.trans (e.trans hy.symm)
    clear hx hy
    by_cases hd:x=y
    ·have HY:Hid (nth l h=nth l' h):=HX.out hd
     clear HX
     subst hd
     go_wp2_with fail
     go_quiet (fail)
     go_wp2
     go_roundw
     case rel=>exact ⟨k + 1,by omega,by go_num,fun i hi=>by
      by_cases e:i=h
      ·subst e; exact HY.out
      ·exact HZ.out i (by have:=HN.out; omega),below_drewN hbe _⟩
     case measure=>simp [intOf]; omega
    ·have hd':(x != y)=true:=by rw [bne_iff_ne]; exact hd
     go_wp2_with fail
     go_quiet (fail)
     go_wp2_with fail
     have q3:(wr.drewN nq).cell? ⟨b,o + h,none⟩=some (.int .u64 x):=q1
     have q4:(wr.drewN nq).cell? ⟨b',o' + h,none⟩=some (.int .u64 y):=q2
     have hbf:=below_drewN hbe nq
     clear q1 q2 hbe
     generalize wr.drewN nq=W at *
     go_quiet ((go_at_call 115; exact Calls.quiet_of_same (compare_u64 _ _ _)))
     go_wp2
     go_ret
     exact ⟨ret1 (HS.out hd),below_drewN hbf _⟩
   ·have hkN:k=N:=by omega
    subst hkN
    go_wp2
    go_ret
    rw [sgn_eq (val_ext fun i=>hz.out i (by omega))]
    exact ⟨rfl,hbe⟩
 ·have hb1:((N:Int) != (N':Int))=true:=by rw [bne_iff_ne]; omega
  go_wp2_with (go_at_call 114; refine (compare_int _ _ _).mono ?_; rintro e w' ⟨rfl,rfl⟩)
  go_ret
  exact ⟨ret1 (hsn.out hne),Below.refl _ _⟩
end
section
open Go.RowKit Lim
theorem w64 (z:Int) (h0:0<=z) (h1:z<=1000):wrap64 z=z:=by
 unfold wrap64; omega
theorem len_arm (k:Int) (i:Nat) (h0:0<=k) (hk:k<=56) (h:i < 256):wrap64 (k + wrap64 (bitLen i:Int))=k + bitLen i:=by
 have:=bitLen_le8 i h
 rw [w64 (bitLen i) (by omega) (by omega),w64 _ (by omega) (by omega)]
theorem len_up (x:Int) (b i:Nat) (h:x.toNat / 2 ^ b=i) (hi:i≠0):((bitLen x.toNat:Nat):Int)=b + bitLen i:=by
 rw [bitLen_shift x.toNat b (by rw [h]; exact hi),h]; omega
theorem len64 (x:Int) (w:World) (h0:0<=x) (h1:x < 18446744073709551616) :
  Calls Tryz.prog 128 #[.int .u64 x] w fun e w'=>e=.returned (.int .i64 (bitLen x.toNat))/\w'=w:=by
 by_cases c0:4294967296<=x
 ·by_cases c1:65536<=x / 4294967296
  ·by_cases c2:256<=x / 4294967296 / 65536
   ·go_enter Tryz.func128,Tryz.ntmps128
    go_wp2
    go_ret
    refine ⟨ret1 ?_,rfl⟩
    rw [len8tab_get,len_arm 56 (x / 4294967296 / 65536 / 256).toNat (by decide) (by decide) (by omega),len_up x 56 (x / 4294967296 / 65536 / 256).toNat (by rw [show (2:Nat) ^ 56=72057594037927936 from rfl]; omega) (by omega)]
    rfl
   ·go_enter Tryz.func128,Tryz.ntmps128
    go_wp2
    go_ret
    refine ⟨ret1 ?_,rfl⟩
    rw [len8tab_get,len_arm 48 (x / 4294967296 / 65536).toNat (by decide) (by decide) (by omega),len_up x 48 (x / 4294967296 / 65536).toNat (by rw [show (2:Nat) ^ 48=281474976710656 from rfl]; omega) (by omega)]
    rfl
  ·by_cases c2:256<=x / 4294967296
   ·go_enter Tryz.func128,Tryz.ntmps128
    go_wp2
    go_ret
    refine ⟨ret1 ?_,rfl⟩
    rw [len8tab_get,len_arm 40 (x / 4294967296 / 256).toNat (by decide) (by decide) (by omega),len_up x 40 (x / 4294967296 / 256).toNat (by rw [show (2:Nat) ^ 40=1099511627776 from rfl]; omega) (by omega)]
    rfl
   ·go_enter Tryz.func128,Tryz.ntmps128
    go_wp2
    go_ret
    refine ⟨ret1 ?_,rfl⟩
    rw [len8tab_get,len_arm 32 (x / 4294967296).toNat (by decide) (by decide) (by omega),len_up x 32 (x / 4294967296).toNat (by rw [show (2:Nat) ^ 32=4294967296 from rfl]; omega) (by omega)]
    rfl
 ·by_cases c1:65536<=x
  ·by_cases c2:256<=x / 65536
   ·go_enter Tryz.func128,Tryz.ntmps128
    go_wp2
    go_ret
    refine ⟨ret1 ?_,rfl⟩
    rw [len8tab_get,len_arm 24 (x / 65536 / 256).toNat (by decide) (by decide) (by omega),len_up x 24 (x / 65536 / 256).toNat (by rw [show (2:Nat) ^ 24=16777216 from rfl]; omega) (by omega)]
    rfl
   ·go_enter Tryz.func128,Tryz.ntmps128
    go_wp2
    go_ret
    refine ⟨ret1 ?_,rfl⟩
    rw [len8tab_get,len_arm 16 (x / 65536).toNat (by decide) (by decide) (by omega),len_up x 16 (x / 65536).toNat (by rw [show (2:Nat) ^ 16=65536 from rfl]; omega) (by omega)]
    rfl
  ·by_cases c2:256<=x
   ·go_enter Tryz.func128,Tryz.ntmps128
    go_wp2
    go_ret
    refine ⟨ret1 ?_,rfl⟩
    rw [len8tab_get,len_arm 8 (x / 256).toNat (by decide) (by decide) (by omega),len_up x 8 (x / 256).toNat (by rw [show (2:Nat) ^ 8=256 from rfl]; omega) (by omega)]
    rfl
   ·go_enter Tryz.func128,Tryz.ntmps128
    go_wp2
    go_ret
    refine ⟨ret1 ?_,rfl⟩
    rw [len8tab_get]
    have:=bitLen_le8 x.toNat (by omega)
    rw [w64 (bitLen x.toNat:Int) (by omega) (by omega),w64 _ (by omega) (by omega)]
theorem bitLen_pos {n:Nat} (h:n≠0):1<=bitLen n:=by unfold bitLen; rw [if_neg h]; omega
theorem bitLen_le64 {n:Nat} (h:n < 18446744073709551616):bitLen n<=64:=by
 unfold bitLen
 split
 ·omega
 ·have:=(Nat.log2_lt (k:=64) ‹_›).2 (by omega); omega
theorem clz64 (x:Int) (w:World) (h0:0<=x) (h1:x < 18446744073709551616) :
  Calls Tryz.prog 108 #[.int .u64 x] w fun e w'=>e=.returned (.int .i64 (64 - bitLen x.toNat))/\w'=w:=by
 have hl:=bitLen_le64 (n:=x.toNat) (by omega)
 have t1:=len64 x w h0 h1
 generalize bitLen x.toNat=L at *
 go_enter Tryz.func108,Tryz.ntmps108
 go_wp2_with fail
 refine t1.mono ?_
 rintro e w1 ⟨rfl,rfl⟩
 go_wp2
 go_ret
 exact ⟨rfl,rfl⟩
end
section
open Go.RowKit Lim
theorem clz_n (y:Int) (w:World) (h0:0 < y) (h1:y < 18446744073709551616) :
  Calls Tryz.prog 108 #[.int .u64 y] w fun e w'=>∃ s:Nat,e=.returned (.int .i64 s)/\s<=63/\Hid (9223372036854775808<=y * 2 ^ s/\y * 2 ^ s < 18446744073709551616)/\w'=w:=by
 refine (clz64 y w (by omega) h1).mono ?_
 rintro e w' ⟨rfl,rfl⟩
 have hl:=bitLen_le64 (n:=y.toNat) (by omega)
 have hp:=bitLen_pos (n:=y.toNat) (by omega)
 have hs:=bitLen_spec y.toNat
 generalize bitLen y.toNat=L at *
 refine ⟨64 - L,ret1 (by omega),by omega,?_,rfl⟩
 have hs1:=hs.1
 have hs2:=hs.2 (by omega)
 obtain ⟨n,rfl⟩:∃ n:Nat,y=n:=⟨y.toNat,by omega⟩
 rw [Int.toNat_natCast] at hs1 hs2
 have e1:(2:Nat) ^ L * 2 ^ (64 - L)=18446744073709551616:=by rw [<- Nat.pow_add,show L + (64 - L)=64 from by omega]
 have e2:(2:Nat) ^ (L - 1) * 2 ^ (64 - L)=9223372036854775808:=by rw [<- Nat.pow_add,show L - 1 + (64 - L)=63 from by omega]
 have k1:n * 2 ^ (64 - L) < 2 ^ L * 2 ^ (64 - L):=Nat.mul_lt_mul_of_pos_right hs1 (Nat.two_pow_pos _)
 have k2:2 ^ (L - 1) * 2 ^ (64 - L)<=n * 2 ^ (64 - L):=Nat.mul_le_mul_right _ hs2
 rw [e1] at k1
 rw [e2] at k2
 have c:((n * 2 ^ (64 - L):Nat):Int)=(n:Int) * 2 ^ (64 - L):=by rw [Int.natCast_mul,Int.natCast_pow]; rfl
 show _/\_
 rw [<- c]
 omega
structure DInv (y y1 u a q r:Int):Prop where
 eq:q * y1 + r=u
 r0:0<=r
 up:u * 4294967296 + a < (q + 1) * y
 q0:0<=q
 qb:q<=4294967297
theorem DInv.start {y y1 y0 u a:Int} (e:y=y1 * 4294967296 + y0) (h0:0<=y0) (h1:y0 < 4294967296) (h2:2147483648<=y1) (u0:0<=u) (u1:u < y) (a0:0<=a) (a1:a < 4294967296) :
  DInv y y1 u a (u / y1) (u % y1):=by
 have hq:=Int.mul_ediv_add_emod u y1
 have hr:=Int.emod_nonneg u (show y1≠0 by omega)
 have hr1:=Int.emod_lt_of_pos u (show 0 < y1 by omega)
 have hq0:0<=u / y1:=Int.ediv_nonneg u0 (by omega)
 generalize u / y1=q at *
 generalize u % y1=r at *
 refine ⟨by rw [Int.mul_comm]; exact hq,hr,?_,hq0,?_⟩
 ·have k1:(q + 1) * y=(y1 * q + y1) * 4294967296 + (q + 1) * y0:=by rw [e]; grind
  have k2:0<=(q + 1) * y0:=Int.mul_nonneg (by omega) h0
  rw [k1]; omega
 ·by_cases hc:q<=4294967297
  ·exact hc
  ·have k:y1 * 4294967298<=y1 * q:=Int.mul_le_mul_of_nonneg_left (by omega) (by omega)
   omega
theorem DInv.big {y y1 u a q r:Int} (h:DInv y y1 u a q r) (a1:a < 4294967296) (y0:0 < y) (u1:u < y) (hq:4294967296<=q) (h2:0<=y1):DInv y y1 u a (q - 1) (r + y1):=by
 have k:y * 4294967296<=y * q:=Int.mul_le_mul_of_nonneg_left hq (by omega)
 have:=h.eq; have:=h.r0; have:=h.qb
 refine ⟨by rw [Int.sub_mul]; omega,by omega,?_,by omega,by omega⟩
 rw [Int.sub_add_cancel,Int.mul_comm q y]; omega
theorem DInv.more {y y1 y0 u a q r:Int} (h:DInv y y1 u a q r) (e:y=y1 * 4294967296 + y0) (u0:0<=u) (a0:0<=a) (h2:0<=y1) (hc:4294967296 * r + a < q * y0):DInv y y1 u a (q - 1) (r + y1):=by
 have he:=h.eq; have:=h.r0; have:=h.qb; have:=h.q0
 have k:q * y=q * y1 * 4294967296 + q * y0:=by rw [e]; grind
 have hup:u * 4294967296 + a < q * y:=by rw [k]; omega
 have hq1:1<=q:=by
  by_cases c:1<=q
  ·exact c
  ·have:q=0:=by omega
   subst this
   simp at hup; omega
 refine ⟨by rw [Int.sub_mul]; omega,by omega,?_,by omega,by omega⟩
 rw [Int.sub_add_cancel]; exact hup
structure Dig (y u a q:Int):Prop where
 lo:q * y<=u * 4294967296 + a
 hi:u * 4294967296 + a < (q + 1) * y
 q0:0<=q
 q1:q < 4294967296
theorem DInv.dig {y y1 y0 u a q r:Int} (h:DInv y y1 u a q r) (e:y=y1 * 4294967296 + y0) (yp:0 < y) (u1:u < y) (a1:a < 4294967296) (hc:q * y0<=4294967296 * r + a):Dig y u a q:=by
 have he:=h.eq
 have k:q * y=q * y1 * 4294967296 + q * y0:=by rw [e]; grind
 have lo:q * y<=u * 4294967296 + a:=by rw [k]; omega
 refine ⟨lo,h.up,h.q0,?_⟩
 by_cases c:q < 4294967296
 ·exact c
 ·have:4294967296 * y<=q * y:=Int.mul_le_mul_of_nonneg_right (by omega) (by omega)
  omega
theorem DInv.broke {y y1 y0 u a q r:Int} (h:DInv y y1 u a q r) (e:y=y1 * 4294967296 + y0) (yp:0 < y) (u1:u < y) (a0:0<=a) (a1:a < 4294967296) (h0:0<=y0) (h1:y0 < 4294967296) (hq:q<=4294967296) (hr:4294967296<=r):Dig y u a q :=
 h.dig e yp u1 a1 (by
  have:q * y0<=4294967296 * y0:=Int.mul_le_mul_of_nonneg_right hq h0
  omega)
theorem Dig.rest {y u a q:Int} (h:Dig y u a q):0<=u * 4294967296 + a - q * y/\u * 4294967296 + a - q * y < y:=by
 have:=h.lo; have h2:=h.hi
 rw [Int.add_mul] at h2
 omega
theorem ediv64 (x S T:Int) (hS:0 < S) (h:S * T=18446744073709551616):x * S / 18446744073709551616=x / T:=by
 rw [<- h,Int.mul_comm S T,Int.mul_ediv_mul_of_pos_left _ _ hS]
theorem or_add (a b:Int) (s:Nat) (k:Int) (ha:a=k * 2 ^ s) (hk:0<=k) (ha1:a < 18446744073709551616) (hb0:0<=b) (hb1:b < 2 ^ s) (hb2:b < 18446744073709551616):bits .or .u64 a b=a + b:=by
 have h2:(0:Int) < 2 ^ s:=Int.pow_pos (by decide)
 have ha0:0<=a:=by rw [ha]; exact Int.mul_nonneg hk (Int.le_of_lt h2)
 rw [u64_or a b ha0 ha1 hb0 hb2]
 obtain ⟨k,rfl⟩:=Int.eq_ofNat_of_zero_le hk
 obtain ⟨b,rfl⟩:=Int.eq_ofNat_of_zero_le hb0
 have e:a.toNat=2 ^ s * k:=by
  have:a=((2 ^ s * k:Nat):Int):=by rw [ha,Int.natCast_mul,Int.natCast_pow,Int.mul_comm]; rfl
  rw [this,Int.toNat_natCast]
 have hb':b < 2 ^ s:=by
  have:((2 ^ s:Nat):Int)=2 ^ s:=by rw [Int.natCast_pow]; rfl
  omega
 rw [e,Int.toNat_natCast,<- Nat.two_pow_add_eq_or_of_lt hb',<- e]
 omega
theorem div_prep (hi lo y:Int) (s:Nat) (h0:0<=hi) (h1:hi < y) (l0:0<=lo) (l1:lo < 18446744073709551616) (hs:s<=63) (HS:9223372036854775808<=y * 2 ^ s/\y * 2 ^ s < 18446744073709551616) :
  ∃ Y Yh Yl U A A1 A0:Int,IntKind.u64.wrap (y * 2 ^ s)=Y/\Y / 4294967296=Yh/\bits .and .u64 Y 4294967295=Yl/\bits .or .u64 (IntKind.u64.wrap (hi * 2 ^ s)) (lo / 2 ^ (64 - s))=U /\
   IntKind.u64.wrap (lo * 2 ^ s)=A/\A / 4294967296=A1/\bits .and .u64 A 4294967295=A0/\0<=Yl/\Yl < 4294967296/\2147483648<=Yh/\Yh < 4294967296/\0<=U/\U < Y/\Y < 18446744073709551616/\0<=A1/\A1 < 4294967296/\0<=A0/\A0 < 4294967296 /\
   Hid (Y=Yh * 4294967296 + Yl)/\Hid ((U * 4294967296 + A1) * 4294967296 + A0=(hi * 18446744073709551616 + lo) * 2 ^ s/\Y=y * 2 ^ s):=by
 have hS:(0:Int) < 2 ^ s:=Int.pow_pos (by decide)
 have hT:(0:Int) < 2 ^ (64 - s):=Int.pow_pos (by decide)
 have hST:(2:Int) ^ s * 2 ^ (64 - s)=18446744073709551616:=by rw [<- Int.pow_add,show s + (64 - s)=64 from by omega]; rfl
 have hSle:(2:Int) ^ s * 1<=2 ^ s * 2 ^ (64 - s):=Int.mul_le_mul_of_nonneg_left (by omega) (Int.le_of_lt hS)
 have hhi:0<=hi * 2 ^ s:=Int.mul_nonneg h0 (Int.le_of_lt hS)
 have hhi2:(hi + 1) * 2 ^ s<=y * 2 ^ s:=Int.mul_le_mul_of_nonneg_right (by omega) (Int.le_of_lt hS)
 rw [Int.add_mul,Int.one_mul] at hhi2
 have hlo:0<=lo * 2 ^ s:=Int.mul_nonneg l0 (Int.le_of_lt hS)
 have hlT0:0<=lo / 2 ^ (64 - s):=Int.ediv_nonneg l0 (Int.le_of_lt hT)
 have hlT1:lo / 2 ^ (64 - s) < 2 ^ s:=by
  rw [Int.ediv_lt_iff_lt_mul hT,hST]; exact l1
 have hq:=ediv64 lo (2 ^ s) (2 ^ (64 - s)) hS hST
 have hU:bits .or .u64 (IntKind.u64.wrap (hi * 2 ^ s)) (lo / 2 ^ (64 - s))=hi * 2 ^ s + lo / 2 ^ (64 - s):=by
  rw [IntKind.wrap_u64,Int.emod_eq_of_lt hhi (by omega)]
  exact or_add _ _ s hi rfl h0 (by omega) hlT0 hlT1 (by omega)
 have hY:IntKind.u64.wrap (y * 2 ^ s)=y * 2 ^ s:=by rw [IntKind.wrap_u64]; omega
 have hA:IntKind.u64.wrap (lo * 2 ^ s)=lo * 2 ^ s % 18446744073709551616:=IntKind.wrap_u64 _
 have e3:(hi * 18446744073709551616 + lo) * 2 ^ s=hi * 2 ^ s * 18446744073709551616 + lo * 2 ^ s:=by grind
 rw [hU,hY,hA]
 rw [<- hq] at hlT0 hlT1 ⊢
 rw [e3]
 generalize hi * 2 ^ s=H at *
 generalize lo * 2 ^ s=Lo at *
 generalize y * 2 ^ s=Y at *
 refine ⟨Y,_,_,_,_,_,_,rfl,rfl,and32 _ (by omega) (by omega),rfl,rfl,rfl,and32 _ (by omega) (by omega),by omega,by omega,by omega,by omega,by omega,by omega,by omega,by omega,by omega,by omega,by omega,?_,?_,rfl⟩
 ·show _=_; omega
 ·omega
theorem rest_wrap (U A p V:Int) (h:V=U * 4294967296 + A - p) (h0:0<=V) (h1:V < 18446744073709551616):IntKind.u64.wrap (IntKind.u64.wrap (IntKind.u64.wrap (U * 4294967296) + A) - IntKind.u64.wrap p)=V:=by
 simp only [IntKind.wrap_u64]; omega
theorem hat_wrap (u y:Int) (hu:0<=u) (hu1:u < 18446744073709551616) (hy:0 < y):IntKind.u64.wrap (u - IntKind.u64.wrap (u / y * y))=u % y:=by
 have h1:=Int.mul_ediv_add_emod u y
 have h2:=Int.emod_nonneg u (show y≠0 by omega)
 have h3:=Int.mul_nonneg (Int.ediv_nonneg hu (Int.le_of_lt hy)) (Int.le_of_lt hy)
 rw [Int.mul_comm] at h1
 generalize u / y * y=p at *
 generalize u % y=r at *
 simp only [IntKind.wrap_u64]; omega
theorem dig_start (Y Yh Yl u a:Int) (hy:Y=Yh * 4294967296 + Yl) (h0:0<=Yl) (h1:Yl < 4294967296) (h2:2147483648<=Yh) (h3:Yh < 4294967296) (u0:0<=u) (u1:u < Y) (u2:Y < 18446744073709551616) (a0:0<=a) (a1:a < 4294967296) :
  IntKind.u64.wrap (u - IntKind.u64.wrap (u / Yh * Yh))=u % Yh/\DInv Y Yh u a (u / Yh) (u % Yh)/\u % Yh < 4294967296 :=
 ⟨hat_wrap u Yh u0 (by omega) (by omega),DInv.start hy h0 h1 h2 u0 u1 a0 a1,by have:=Int.emod_lt_of_pos u (show 0 < Yh by omega); omega⟩
theorem dig_rest {Y u a q:Int} (h:Dig Y u a q) (hY:Y < 18446744073709551616):∃ V:Int,IntKind.u64.wrap (IntKind.u64.wrap (IntKind.u64.wrap (u * 4294967296) + a) - IntKind.u64.wrap (q * Y))=V/\0<=V/\V < Y/\Hid (V=u * 4294967296 + a - q * Y):=by
 have:=h.rest
 exact ⟨u * 4294967296 + a - q * Y,rest_wrap u a (q * Y) _ rfl this.1 (by omega),this.1,this.2,rfl⟩
theorem div_fin (hi lo y Y U A1 A0 Q V Q2:Int) (s:Nat) (hy:0 < y) (e:(U * 4294967296 + A1) * 4294967296 + A0=(hi * 18446744073709551616 + lo) * 2 ^ s) (eY:Y=y * 2 ^ s) (hV:V=U * 4294967296 + A1 - Q * Y) (hd:Dig Y V A0 Q2) :
  Q * 4294967296 + Q2=(hi * 18446744073709551616 + lo) / y/\(V * 4294967296 + A0 - Q2 * Y) / 2 ^ s=(hi * 18446744073709551616 + lo) % y:=by
 have hS:(0:Int) < 2 ^ s:=Int.pow_pos (by decide)
 have hr:=hd.rest
 have h1:=hd.q0
 have h2:=hd.q1
 generalize hN:hi * 18446744073709551616 + lo=N at *
 have key:N * 2 ^ s=(Q * 4294967296 + Q2) * y * 2 ^ s + (V * 4294967296 + A0 - Q2 * Y):=by rw [<- e,hV,eY]; grind
 generalize hR:V * 4294967296 + A0 - Q2 * Y=R at *
 have hdiv:R=(N - (Q * 4294967296 + Q2) * y) * 2 ^ s:=by rw [Int.sub_mul]; omega
 generalize hK:Q * 4294967296 + Q2=K at *
 generalize hD:N - K * y=D at *
 rw [hdiv] at hr
 rw [eY] at hr
 have d0:0<=D:=by
  by_cases c:0<=D
  ·exact c
  ·have:D * 2 ^ s <= -1 * 2 ^ s:=Int.mul_le_mul_of_nonneg_right (by omega) (Int.le_of_lt hS)
   omega
 have d1:D < y:=Int.lt_of_mul_lt_mul_right hr.2 (Int.le_of_lt hS)
 have hND:N=y * K + D:=by rw [<- hD,Int.mul_comm y K]; omega
 constructor
 ·have:N / y=K:=by rw [hND,Int.add_comm,Int.add_mul_ediv_left _ _ (by omega),Int.ediv_eq_zero_of_lt d0 d1,Int.zero_add]
  omega
 ·rw [hdiv,Int.mul_ediv_cancel _ (by omega),hND,Int.add_comm,Int.add_mul_emod_self_left,Int.emod_eq_of_lt d0 d1]
theorem div64_big (hi lo y:Int) (w:World) (h0:0 < hi) (h1:hi < y) (l0:0<=lo) (l1:lo < 18446744073709551616) (y1:y < 18446744073709551616) :
  Calls Tryz.prog 151 #[.int .u64 hi,.int .u64 lo,.int .u64 y] w fun e w'=>e=.returned (.tuple #[.int .u64 ((hi * 18446744073709551616 + lo) / y),.int .u64 ((hi * 18446744073709551616 + lo) % y)])/\w'=w:=by
 have hb0:(hi == 0)=false:=beq_eq_false_iff_ne.2 (by omega)
 have hb1:(y == 0)=false:=beq_eq_false_iff_ne.2 (by omega)
 go_enter Tryz.func151,Tryz.ntmps151
 go_wp2_with fail
 refine (clz_n y _ (by omega) y1).mono ?_
 rintro e w' ⟨s,rfl,hs,HS,rfl⟩
 obtain ⟨Y,Yh,Yl,U,A,A1,A0,e1,e2,e3,e4,e5,e6,e7,yl0,yl1,yh0,yh1,u0,u1,yy,a10,a11,a00,a01,HY,HF⟩:=div_prep hi lo y s (by omega) h1 l0 l1 hs HS.out
 obtain ⟨d2,hD0,hr0⟩:=dig_start Y Yh Yl U A1 HY.out yl0 yl1 yh0 yh1 u0 u1 yy a10 a11
 go_wp2_with fail
 clear e1 e2 e3 e4 e5 e6 e7 d2 HS hb0 hb1
 go_loop [15,16] (fun tq tr=>∃ q r:Int,tq=.int .u64 q/\tr=.int .u64 r/\DInv Y Yh U A1 q r/\r < 4294967296) (fun tq _=>(intOf tq).toNat)
 case atStart=>exact ⟨_,_,rfl,rfl,hD0,hr0⟩
 case round =>
  clear hD0 hr0
  obtain ⟨q,r,rfl,rfl,hD,hr⟩:=hrel
  have q0:=hD.q0
  have qb:=hD.qb
  have r0:=hD.r0
  by_cases c1:4294967296<=q
  ·have hD':=hD.big a11 (by omega) u1 c1 (by omega)
   obtain ⟨Q,hQ⟩:∃ Q,q - 1=Q:=⟨_,rfl⟩
   obtain ⟨R,hR⟩:∃ R,r + Yh=R:=⟨_,rfl⟩
   rw [hQ,hR] at hD'
   have Q0:=hD'.q0
   have Qlt:Q < q:=by omega
   have Rb:R < 8589934592:=by omega
   have R0:=hD'.r0
   by_cases c2:4294967296<=R
   ·have HD:Hid (Dig Y U A1 Q):=hD'.broke HY.out (by omega) u1 (by omega) a11 yl0 yl1 (by omega) c2
    have Q1:=HD.out.q1
    obtain ⟨V,v1,v2,v3,HV⟩:=dig_rest HD.out yy
    obtain ⟨d2,hD0,hr0⟩:=dig_start Y Yh Yl V A0 HY.out yl0 yl1 yh0 yh1 v2 v3 yy a00 a01
    obtain ⟨QQ,hQQ⟩:∃ QQ,QQ=Q:=⟨_,rfl⟩
    have QQ0:0<=QQ:=by omega
    have QQ1:QQ < 4294967296:=by omega
    have HV:Hid (V=U * 4294967296 + A1 - QQ * Y):=by rw [hQQ]; exact HV
    go_wp2_with fail
    rw [<- hQQ]
    clear v1 d2 hQQ
    go_loop [18,16] (fun tq tr=>∃ q r:Int,tq=.int .u64 q/\tr=.int .u64 r/\DInv Y Yh V A0 q r/\r < 4294967296) (fun tq _=>(intOf tq).toNat)
    case atStart=>exact ⟨_,_,rfl,rfl,hD0,hr0⟩
    case round =>
     clear hD0 hr0 HD
     obtain ⟨q,r,rfl,rfl,hD,hr⟩:=hrel
     have q0:=hD.q0
     have qb:=hD.qb
     have r0:=hD.r0
     by_cases c1:4294967296<=q
     ·have hD':=hD.big a01 (by omega) v3 c1 (by omega)
      obtain ⟨Q,hQ⟩:∃ Q,q - 1=Q:=⟨_,rfl⟩
      obtain ⟨R,hR⟩:∃ R,r + Yh=R:=⟨_,rfl⟩
      rw [hQ,hR] at hD'
      have Q0:=hD'.q0
      have Qlt:Q < q:=by omega
      have Rb:R < 8589934592:=by omega
      have R0:=hD'.r0
      by_cases c2:4294967296<=R
      ·have HD:Hid (Dig Y V A0 Q):=hD'.broke HY.out (by omega) v3 (by omega) a01 yl0 yl1 (by omega) c2
       have Q1:=HD.out.q1
       obtain ⟨Z,z1,z2,z3,HZ⟩:=dig_rest HD.out yy
       go_wp2
       go_ret2
       have hfin:=div_fin hi lo y Y U A1 A0 QQ V Q s (by omega) HF.out.1 HF.out.2 HV.out HD.out
       exact ⟨ret2 hfin.1 (by rw [<- hfin.2,<- HZ.out]),rfl⟩
      ·have HR:Hid (DInv Y Yh V A0 Q R):=hD'
       clear hD' hD
       go_wp2
       go_round
       case rel=>exact ⟨Q,R,rfl,rfl,HR.out,by omega⟩
       case measure=>simp [intOf]; omega
     ·obtain ⟨p,hp⟩:∃ p,q * Yl=p:=⟨_,rfl⟩
      have p0:0<=p:=by rw [<- hp]; exact Int.mul_nonneg q0 yl0
      have p1:p < 18446744073709551616:=by
       have:=Int.mul_le_mul (show q<=4294967295 by omega) (show Yl<=4294967295 by omega) yl0 (by decide)
       omega
      by_cases c3:4294967296 * r + A0 < p
      ·have hD':=hD.more HY.out (by omega) (by omega) (by omega) (by rw [hp]; exact c3)
       obtain ⟨Q,hQ⟩:∃ Q,q - 1=Q:=⟨_,rfl⟩
       obtain ⟨R,hR⟩:∃ R,r + Yh=R:=⟨_,rfl⟩
       rw [hQ,hR] at hD'
       have Q0:=hD'.q0
       have Qlt:Q < q:=by omega
       have Rb:R < 8589934592:=by omega
       have R0:=hD'.r0
       by_cases c2:4294967296<=R
       ·have HD:Hid (Dig Y V A0 Q):=hD'.broke HY.out (by omega) v3 (by omega) a01 yl0 yl1 (by omega) c2
        have Q1:=HD.out.q1
        obtain ⟨Z,z1,z2,z3,HZ⟩:=dig_rest HD.out yy
        go_wp2
        go_ret2
        have hfin:=div_fin hi lo y Y U A1 A0 QQ V Q s (by omega) HF.out.1 HF.out.2 HV.out HD.out
        exact ⟨ret2 hfin.1 (by rw [<- hfin.2,<- HZ.out]),rfl⟩
       ·have HR:Hid (DInv Y Yh V A0 Q R):=hD'
        clear hD' hD
        go_wp2
        go_round
        case rel=>exact ⟨Q,R,rfl,rfl,HR.out,by omega⟩
        case measure=>simp [intOf]; omega
      ·have HD:Hid (Dig Y V A0 q):=hD.dig HY.out (by omega) v3 a01 (by rw [hp]; omega)
       have Q1:=HD.out.q1
       have Q0:=HD.out.q0
       clear hD
       have hqq:∃ Q,Q=q:=⟨_,rfl⟩
       obtain ⟨Q,rfl⟩:=hqq
       obtain ⟨Z,z1,z2,z3,HZ⟩:=dig_rest HD.out yy
       go_wp2
       go_ret2
       have hfin:=div_fin hi lo y Y U A1 A0 QQ V Q s (by omega) HF.out.1 HF.out.2 HV.out HD.out
       exact ⟨ret2 hfin.1 (by rw [<- hfin.2,<- HZ.out]),rfl⟩
   ·have HR:Hid (DInv Y Yh U A1 Q R):=hD'
    clear hD' hD
    go_wp2
    go_round
    case rel=>exact ⟨Q,R,rfl,rfl,HR.out,by omega⟩
    case measure=>simp [intOf]; omega
  ·obtain ⟨p,hp⟩:∃ p,q * Yl=p:=⟨_,rfl⟩
   have p0:0<=p:=by rw [<- hp]; exact Int.mul_nonneg q0 yl0
   have p1:p < 18446744073709551616:=by
    have:=Int.mul_le_mul (show q<=4294967295 by omega) (show Yl<=4294967295 by omega) yl0 (by decide)
    omega
   by_cases c3:4294967296 * r + A1 < p
   ·have hD':=hD.more HY.out (by omega) (by omega) (by omega) (by rw [hp]; exact c3)
    obtain ⟨Q,hQ⟩:∃ Q,q - 1=Q:=⟨_,rfl⟩
    obtain ⟨R,hR⟩:∃ R,r + Yh=R:=⟨_,rfl⟩
    rw [hQ,hR] at hD'
    have Q0:=hD'.q0
    have Qlt:Q < q:=by omega
    have Rb:R < 8589934592:=by omega
    have R0:=hD'.r0
    by_cases c2:4294967296<=R
    ·have HD:Hid (Dig Y U A1 Q):=hD'.broke HY.out (by omega) u1 (by omega) a11 yl0 yl1 (by omega) c2
     have Q1:=HD.out.q1
     obtain ⟨V,v1,v2,v3,HV⟩:=dig_rest HD.out yy
     obtain ⟨d2,hD0,hr0⟩:=dig_start Y Yh Yl V A0 HY.out yl0 yl1 yh0 yh1 v2 v3 yy a00 a01
     obtain ⟨QQ,hQQ⟩:∃ QQ,QQ=Q:=⟨_,rfl⟩
     have QQ0:0<=QQ:=by omega
     have QQ1:QQ < 4294967296:=by omega
     have HV:Hid (V=U * 4294967296 + A1 - QQ * Y):=by rw [hQQ]; exact HV
     go_wp2_with fail
     rw [<- hQQ]
     clear v1 d2 hQQ
     go_loop [18,16] (fun tq tr=>∃ q r:Int,tq=.int .u64 q/\tr=.int .u64 r/\DInv Y Yh V A0 q r/\r < 4294967296) (fun tq _=>(intOf tq).toNat)
     case atStart=>exact ⟨_,_,rfl,rfl,hD0,hr0⟩
     case round =>
      clear hD0 hr0 HD
      obtain ⟨q,r,rfl,rfl,hD,hr⟩:=hrel
      have q0:=hD.q0
      have qb:=hD.qb
      have r0:=hD.r0
      by_cases c1:4294967296<=q
      ·have hD':=hD.big a01 (by omega) v3 c1 (by omega)
       obtain ⟨Q,hQ⟩:∃ Q,q - 1=Q:=⟨_,rfl⟩
       obtain ⟨R,hR⟩:∃ R,r + Yh=R:=⟨_,rfl⟩
       rw [hQ,hR] at hD'
       have Q0:=hD'.q0
       have Qlt:Q < q:=by omega
       have Rb:R < 8589934592:=by omega
       have R0:=hD'.r0
       by_cases c2:4294967296<=R
       ·have HD:Hid (Dig Y V A0 Q):=hD'.broke HY.out (by omega) v3 (by omega) a01 yl0 yl1 (by omega) c2
        have Q1:=HD.out.q1
        obtain ⟨Z,z1,z2,z3,HZ⟩:=dig_rest HD.out yy
        go_wp2
        go_ret2
        have hfin:=div_fin hi lo y Y U A1 A0 QQ V Q s (by omega) HF.out.1 HF.out.2 HV.out HD.out
        exact ⟨ret2 hfin.1 (by rw [<- hfin.2,<- HZ.out]),rfl⟩
       ·have HR:Hid (DInv Y Yh V A0 Q R):=hD'
        clear hD' hD
        go_wp2
        go_round
        case rel=>exact ⟨Q,R,rfl,rfl,HR.out,by omega⟩
        case measure=>simp [intOf]; omega
      ·obtain ⟨p,hp⟩:∃ p,q * Yl=p:=⟨_,rfl⟩
       have p0:0<=p:=by rw [<- hp]; exact Int.mul_nonneg q0 yl0
       have p1:p < 18446744073709551616:=by
        have:=Int.mul_le_mul (show q<=4294967295 by omega) (show Yl<=4294967295 by omega) yl0 (by decide)
        omega
       by_cases c3:4294967296 * r + A0 < p
       ·have hD':=hD.more HY.out (by omega) (by omega) (by omega) (by rw [hp]; exact c3)
        obtain ⟨Q,hQ⟩:∃ Q,q - 1=Q:=⟨_,rfl⟩
        obtain ⟨R,hR⟩:∃ R,r + Yh=R:=⟨_,rfl⟩
        rw [hQ,hR] at hD'
        have Q0:=hD'.q0
        have Qlt:Q < q:=by omega
        have Rb:R < 8589934592:=by omega
        have R0:=hD'.r0
        by_cases c2:4294967296<=R
        ·have HD:Hid (Dig Y V A0 Q):=hD'.broke HY.out (by omega) v3 (by omega) a01 yl0 yl1 (by omega) c2
         have Q1:=HD.out.q1
         obtain ⟨Z,z1,z2,z3,HZ⟩:=dig_rest HD.out yy
         go_wp2
         go_ret2
         have hfin:=div_fin hi lo y Y U A1 A0 QQ V Q s (by omega) HF.out.1 HF.out.2 HV.out HD.out
         exact ⟨ret2 hfin.1 (by rw [<- hfin.2,<- HZ.out]),rfl⟩
        ·have HR:Hid (DInv Y Yh V A0 Q R):=hD'
         clear hD' hD
         go_wp2
         go_round
         case rel=>exact ⟨Q,R,rfl,rfl,HR.out,by omega⟩
         case measure=>simp [intOf]; omega
       ·have HD:Hid (Dig Y V A0 q):=hD.dig HY.out (by omega) v3 a01 (by rw [hp]; omega)
        have Q1:=HD.out.q1
        have Q0:=HD.out.q0
        clear hD
        have hqq:∃ Q,Q=q:=⟨_,rfl⟩
        obtain ⟨Q,rfl⟩:=hqq
        obtain ⟨Z,z1,z2,z3,HZ⟩:=dig_rest HD.out yy
        go_wp2
        go_ret2
        have hfin:=div_fin hi lo y Y U A1 A0 QQ V Q s (by omega) HF.out.1 HF.out.2 HV.out HD.out
        exact ⟨ret2 hfin.1 (by rw [<- hfin.2,<- HZ.out]),rfl⟩
    ·have HR:Hid (DInv Y Yh U A1 Q R):=hD'
     clear hD' hD
     go_wp2
     go_round
     case rel=>exact ⟨Q,R,rfl,rfl,HR.out,by omega⟩
     case measure=>simp [intOf]; omega
   ·have HD:Hid (Dig Y U A1 q):=hD.dig HY.out (by omega) u1 a11 (by rw [hp]; omega)
    have Q1:=HD.out.q1
    have Q0:=HD.out.q0
    clear hD
    have hqq:∃ Q,Q=q:=⟨_,rfl⟩
    obtain ⟨Q,rfl⟩:=hqq
    obtain ⟨V,v1,v2,v3,HV⟩:=dig_rest HD.out yy
    obtain ⟨d2,hD0,hr0⟩:=dig_start Y Yh Yl V A0 HY.out yl0 yl1 yh0 yh1 v2 v3 yy a00 a01
    obtain ⟨QQ,hQQ⟩:∃ QQ,QQ=Q:=⟨_,rfl⟩
    have QQ0:0<=QQ:=by omega
    have QQ1:QQ < 4294967296:=by omega
    have HV:Hid (V=U * 4294967296 + A1 - QQ * Y):=by rw [hQQ]; exact HV
    go_wp2_with fail
    rw [<- hQQ]
    clear v1 d2 hQQ
    go_loop [18,16] (fun tq tr=>∃ q r:Int,tq=.int .u64 q/\tr=.int .u64 r/\DInv Y Yh V A0 q r/\r < 4294967296) (fun tq _=>(intOf tq).toNat)
    case atStart=>exact ⟨_,_,rfl,rfl,hD0,hr0⟩
    case round =>
     clear hD0 hr0 HD
     obtain ⟨q,r,rfl,rfl,hD,hr⟩:=hrel
     have q0:=hD.q0
     have qb:=hD.qb
     have r0:=hD.r0
     by_cases c1:4294967296<=q
     ·have hD':=hD.big a01 (by omega) v3 c1 (by omega)
      obtain ⟨Q,hQ⟩:∃ Q,q - 1=Q:=⟨_,rfl⟩
      obtain ⟨R,hR⟩:∃ R,r + Yh=R:=⟨_,rfl⟩
      rw [hQ,hR] at hD'
      have Q0:=hD'.q0
      have Qlt:Q < q:=by omega
      have Rb:R < 8589934592:=by omega
      have R0:=hD'.r0
      by_cases c2:4294967296<=R
      ·have HD:Hid (Dig Y V A0 Q):=hD'.broke HY.out (by omega) v3 (by omega) a01 yl0 yl1 (by omega) c2
       have Q1:=HD.out.q1
       obtain ⟨Z,z1,z2,z3,HZ⟩:=dig_rest HD.out yy
       go_wp2
       go_ret2
       have hfin:=div_fin hi lo y Y U A1 A0 QQ V Q s (by omega) HF.out.1 HF.out.2 HV.out HD.out
       exact ⟨ret2 hfin.1 (by rw [<- hfin.2,<- HZ.out]),rfl⟩
      ·have HR:Hid (DInv Y Yh V A0 Q R):=hD'
       clear hD' hD
       go_wp2
       go_round
       case rel=>exact ⟨Q,R,rfl,rfl,HR.out,by omega⟩
       case measure=>simp [intOf]; omega
     ·obtain ⟨p,hp⟩:∃ p,q * Yl=p:=⟨_,rfl⟩
      have p0:0<=p:=by rw [<- hp]; exact Int.mul_nonneg q0 yl0
      have p1:p < 18446744073709551616:=by
       have:=Int.mul_le_mul (show q<=4294967295 by omega) (show Yl<=4294967295 by omega) yl0 (by decide)
       omega
      by_cases c3:4294967296 * r + A0 < p
      ·have hD':=hD.more HY.out (by omega) (by omega) (by omega) (by rw [hp]; exact c3)
       obtain ⟨Q,hQ⟩:∃ Q,q - 1=Q:=⟨_,rfl⟩
       obtain ⟨R,hR⟩:∃ R,r + Yh=R:=⟨_,rfl⟩
       rw [hQ,hR] at hD'
       have Q0:=hD'.q0
       have Qlt:Q < q:=by omega
       have Rb:R < 8589934592:=by omega
       have R0:=hD'.r0
       by_cases c2:4294967296<=R
       ·have HD:Hid (Dig Y V A0 Q):=hD'.broke HY.out (by omega) v3 (by omega) a01 yl0 yl1 (by omega) c2
        have Q1:=HD.out.q1
        obtain ⟨Z,z1,z2,z3,HZ⟩:=dig_rest HD.out yy
        go_wp2
        go_ret2
        have hfin:=div_fin hi lo y Y U A1 A0 QQ V Q s (by omega) HF.out.1 HF.out.2 HV.out HD.out
        exact ⟨ret2 hfin.1 (by rw [<- hfin.2,<- HZ.out]),rfl⟩
       ·have HR:Hid (DInv Y Yh V A0 Q R):=hD'
        clear hD' hD
        go_wp2
        go_round
        case rel=>exact ⟨Q,R,rfl,rfl,HR.out,by omega⟩
        case measure=>simp [intOf]; omega
      ·have HD:Hid (Dig Y V A0 q):=hD.dig HY.out (by omega) v3 a01 (by rw [hp]; omega)
       have Q1:=HD.out.q1
       have Q0:=HD.out.q0
       clear hD
       have hqq:∃ Q,Q=q:=⟨_,rfl⟩
       obtain ⟨Q,rfl⟩:=hqq
       obtain ⟨Z,z1,z2,z3,HZ⟩:=dig_rest HD.out yy
       go_wp2
       go_ret2
       have hfin:=div_fin hi lo y Y U A1 A0 QQ V Q s (by omega) HF.out.1 HF.out.2 HV.out HD.out
       exact ⟨ret2 hfin.1 (by rw [<- hfin.2,<- HZ.out]),rfl⟩
theorem div64_zero (lo y:Int) (w:World) (hy:0 < y) (l0:0<=lo) (l1:lo < 18446744073709551616) (y1:y < 18446744073709551616) :
  Calls Tryz.prog 151 #[.int .u64 0,.int .u64 lo,.int .u64 y] w fun e w'=>e=.returned (.tuple #[.int .u64 (lo / y),.int .u64 (lo % y)])/\∃ n,w'=w.drewN n:=by
 have hb1:(y == 0)=false:=beq_eq_false_iff_ne.2 (by omega)
 go_enter Tryz.func151,Tryz.ntmps151
 go_wp2_with fail
 go_quiet (fail)
 go_wp2
 go_ret2
 exact ⟨rfl,_,rfl⟩
theorem div64 (hi lo y:Int) (w:World) (h0:0<=hi) (h1:hi < y) (l0:0<=lo) (l1:lo < 18446744073709551616) (y1:y < 18446744073709551616) :
  Calls Tryz.prog 151 #[.int .u64 hi,.int .u64 lo,.int .u64 y] w fun e w'=>∃ q r:Int,e=.returned (.tuple #[.int .u64 q,.int .u64 r])/\0<=q/\q < 18446744073709551616/\0<=r/\r < y/\Hid (q * y + r=hi * 18446744073709551616 + lo)/\∃ n,w'=w.drewN n:=by
 have fin:∀ N:Int,0<=N->N < y * 18446744073709551616->0<=N / y/\N / y < 18446744073709551616/\0<=N % y/\N % y < y/\Hid (N / y * y + N % y=N):=by
  intro N n0 n1
  refine ⟨Int.ediv_nonneg n0 (by omega),(Int.ediv_lt_iff_lt_mul (by omega)).2 (by rw [Int.mul_comm]; exact n1),Int.emod_nonneg _ (by omega),Int.emod_lt_of_pos _ (by omega),?_⟩
  show _=_
  rw [Int.mul_comm]; exact Int.mul_ediv_add_emod N y
 by_cases c:hi=0
 ·subst c
  refine (div64_zero lo y w (by omega) l0 l1 y1).mono ?_
  rintro e w' ⟨rfl,hw⟩
  obtain ⟨f1,f2,f3,f4,f5⟩:=fin lo l0 (by omega)
  exact ⟨_,_,rfl,f1,f2,f3,f4,by simpa using f5,hw⟩
 ·refine (div64_big hi lo y w (by omega) h1 l0 l1 y1).mono ?_
  rintro e w' ⟨rfl,rfl⟩
  obtain ⟨f1,f2,f3,f4,f5⟩:=fin (hi * 18446744073709551616 + lo) (by omega) (by omega)
  exact ⟨_,_,rfl,f1,f2,f3,f4,f5,0,rfl⟩
end
section
open Go.RowKit Lim
theorem val_drop {l:List Int} {h:Nat} (hl:h < l.length):val (l.drop h)=nth l h + 18446744073709551616 * val (l.drop (h + 1)):=by
 rw [List.drop_eq_getElem_cons hl,val,nth_eq hl]
structure DivSInv (lz:List Int) (d:Int) (h:Nat) (lz1:List Int) (left:Int):Prop where
 len:lz1.length=lz.length
 words:Words lz1
 low:∀ i,i < h->nth lz1 i=nth lz i
 val:Lim.val (lz1.drop h) * d + left=Lim.val (lz.drop h)
theorem DivSInv.step {lz lz1:List Int} {d left q r:Int} {h:Nat} (hv:DivSInv lz d (h + 1) lz1 left) (hh:h < lz.length) (q0:0<=q) (q1:q < 18446744073709551616) (e:q * d + r=left * 18446744073709551616 + nth lz h):DivSInv lz d h (lz1.set h q) r:=by
 have hl:=hv.len
 refine ⟨by simp [hl],hv.words.set h q0 q1,fun i hi=>by rw [nth_set (by omega),if_neg (by omega)]; exact hv.low i (by omega),?_⟩
 rw [val_drop (by simp; omega),nth_set (by omega),if_pos rfl,List.drop_set,if_pos (by omega),val_drop hh,<- hv.val]
 grind
theorem divideSmall_any (az:Option Addr) (bz oz nz cz:Nat) (d:Int) (lz:List Int) (w:World) (hnz:lz.length=nz) (hbig:nz<=2199023255552) (hcz:nz<=cz) (d0:0 < d) (d1:d < 18446744073709551616)
  (wz:Words lz) (hz:At w az bz oz lz) (hfz:Free w bz oz nz) :
  Calls Tryz.prog 131 #[.slice az nz cz,.int .u64 d] w fun e w'=>∃ (left:Int) (lz':List Int),e=.returned (.int .u64 left)/\0<=left/\left < d/\lz'.length=nz/\Words lz'/\At w' az bz oz lz'/\Wr bz oz nz w w'/\val lz' * d + left=val lz:=by
 go_enter Tryz.func131,Tryz.ntmps131
 go_wp2
 go_loopw [5,10] (fun tc ti wr=>∃ (k:Nat) (c:Int) (lz1:List Int),k<=nz/\ti=.int .i64 k/\tc=.int .u64 c/\0<=c/\c < d/\DivSInv lz d (nz - k) lz1 c/\At wr az bz oz lz1/\Wr bz oz nz w wr) (fun _ ti _=>nz - (intOf ti).toNat)
 case atStart=>exact ⟨0,0,lz,Nat.zero_le _,rfl,rfl,by decide,d0,⟨rfl,wz,fun _ _=>rfl,by simp [<- hnz,val]⟩,hz,Wr.refl _ _ _ _⟩
 case round =>
  obtain ⟨k,c,lz1,hk,rfl,rfl,hc0,hc1,hinv,hat,hwr⟩:=hrel
  have hlen1:=hinv.len
  by_cases hlt:k < nz
  ·rcases hz.loc with e | rfl
   ·subst e; simp at hnz; omega
   obtain ⟨h,hh⟩:∃ h:Nat,nz=h + 1 + k:=⟨nz - 1 - k,by omega⟩
   have hcz:=hat.cell h (by omega)
   have hfr:=hwr.free hfz h (by omega)
   have hzz:=wz.nth h
   rw [hinv.low h (by omega)] at hcz
   have hidx:(nz:Int) - 1 - k=h:=by omega
   have hh0:(h:Int) < nz:=by omega
   obtain ⟨hz0,hz1⟩:=hzz
   have HI:Hid (DivSInv lz d (h + 1) lz1 c):=by rw [show h + 1=nz - k from by omega]; exact hinv
   have HN:Hid (nz=h + 1 + k):=hh
   clear hh hinv hz wz
   go_wp2_with (go_at_call 151; refine (div64 _ _ _ _ hc0 hc1 hz0 hz1 d1).mono ?_; rintro e w' ⟨q,r,rfl,q0,q1,r0,r1,hqr,nd,rfl⟩)
   have hn:=HN.out
   refine ⟨⟨k + 1,r,lz1.set h q,by omega,by go_num,rfl,r0,r1,by rw [show nz - (k + 1)=h from by omega]; exact HI.out.step (by omega) q0 q1 hqr.out,?_,?_⟩,by simp [intOf]; omega⟩
   ·exact (hat.setCell (by omega) q).drewN nd
   ·exact (hwr.setCell (by omega) (by omega) _).drewN nd
  ·have hkn:k=nz:=by omega
   subst hkn
   go_wp2
   go_ret
   refine ⟨c,lz1,rfl,hc0,hc1,by omega,hinv.words,hat,hwr,?_⟩
   have:=hinv.val
   rwa [Nat.sub_self,List.drop_zero,List.drop_zero] at this
end
section
open Go.RowKit Lim
theorem NewV.of {w w':World} {l:List Int} {ao:Option Addr} {n c b o:Nat} (hn:n=l.length) (h1:n<=c) (h2:w.heap.size<=b) (h3:At w' ao b o l) (h4:Free w' b o n):NewV w w' (.slice ao n c) l:=by
 subst hn; exact ⟨ao,b,o,c,rfl,h1,h2,h3,h4⟩
theorem norm_any (ao:Option Addr) (n c b o:Nat) (l:List Int) (w:World) (hl:l.length=n) (hc:n<=c) (hbig:n<=1099511627776) (ha:At w ao b o l) :
  Calls Tryz.prog 80 #[.slice ao n c] w fun e w'=>e=.returned (.slice (some ⟨w.heap.size,0,none⟩) (nlen l) (nlen l))/\Row w' w.heap.size (norm l)/\Below w.heap.size w w':=by
 have hn:=nlen_le l
 have t1:=trim_any ao n c l w hl hc (by omega) ha.cells
 have hs:=ha.sub (nlen l)
 have hnl:=norm_length l
 rw [show l.take (nlen l)=norm l from rfl] at hs
 generalize nlen l=N at *
 generalize norm l=L at *
 go_enter Tryz.func80,Tryz.ntmps80
 go_wp2_with fail
 refine t1.mono ?_
 rintro e w1 ⟨rfl,rfl⟩
 clear t1
 go_wp2_with (first
  | (at_make; refine wpList_makeN rfl _ _ rfl N _ _ rfl rfl rfl rfl (by omega) ?_; intro w2 hrow hbel hsz; have hs2:=hs.keep hbel)
  | (refine wpList_copyN rfl (.tmp 10) (.tmp 11) rfl _ _ _ _ _ _ rfl rfl _ _ hrow (by simp) _ _ hnl (Nat.le_refl _) hs2 ?_; intro w3 hrow3 hwr))
 go_ret
 refine ⟨rfl,?_,?_⟩
 ·simpa using hrow3
 ·exact hbel.trans (hwr.below (Nat.le_refl _))
end
section
open Go.RowKit Lim
theorem add_step (z x m c hi lo:Int) (hz:0<=z/\z < 18446744073709551616) (hc:0<=c/\c < 18446744073709551616) (h1:0<=hi) (h2:hi<=18446744073709551614) (h3:0<=lo) (h4:lo < 18446744073709551616) (h5:hi * 18446744073709551616 + lo=x * m)
  (hb:x * m<=340282366920938463426481119284349108225) :
  0<=hi + (lo + c) / 18446744073709551616/\hi + (lo + c) / 18446744073709551616<=18446744073709551615 /\
  0<=hi + (lo + c) / 18446744073709551616 + (z + (lo + c) % 18446744073709551616) / 18446744073709551616 /\
  hi + (lo + c) / 18446744073709551616 + (z + (lo + c) % 18446744073709551616) / 18446744073709551616<=18446744073709551615 /\
  (z + (lo + c) % 18446744073709551616) % 18446744073709551616 + 18446744073709551616 * (hi + (lo + c) / 18446744073709551616 + (z + (lo + c) % 18446744073709551616) / 18446744073709551616)=z + x * m + c:=by
 omega
def AddInv (lz lb:List Int) (m:Int) (k:Nat) (lz1:List Int) (c:Int):Prop :=
 lz1.length=lz.length/\Words lz1/\(∀ i,k<=i->nth lz1 i=nth lz i)/\val (lz1.take k) + 18446744073709551616 ^ k * c=val (lz.take k) + val (lb.take k) * m
theorem AddInv.step {lz lb lz1:List Int} {m c z' c':Int} {k:Nat} (h:AddInv lz lb m k lz1 c) (hk:k < lz.length) (hz0:0<=z') (hz1:z' < 18446744073709551616)
  (e:z' + 18446744073709551616 * c'=nth lz k + nth lb k * m + c):AddInv lz lb m (k + 1) (lz1.set k z') c':=by
 obtain ⟨h1,h2,h3,h4⟩:=h
 refine ⟨by simp [h1],h2.set k hz0 hz1,fun i hi => ?_,?_⟩
 ·rw [nth_set (by omega),if_neg (by omega)]; exact h3 i (by omega)
 ·have hb:val (lb.take (k + 1))=val (lb.take k) + 18446744073709551616 ^ k * nth lb k:=by
   by_cases hl:k < lb.length
   ·exact val_take_succ hl
   ·rw [List.take_of_length_le (by omega),List.take_of_length_le (by omega),nth_ge (by omega)]; simp
  rw [val_take_succ (by simp [h1]; omega),val_take_succ hk,hb,List.take_set_of_le (Nat.le_refl _),nth_set (by omega),if_pos rfl,Int.pow_succ]
  have:18446744073709551616 ^ k * (z' + 18446744073709551616 * c')=18446744073709551616 ^ k * (nth lz k + nth lb k * m + c):=by rw [e]
  grind
theorem AddInv.done {lz lb lz1:List Int} {m c:Int} {k n:Nat} (hn:lz.length=n) (h:AddInv lz lb m k lz1 c) (hc:c=0\/lz.length=k) (hk:lb.length<=k) (hkn:k<=n) :
  val lz1=(val lz + val lb * m) % 18446744073709551616 ^ n:=by
 obtain ⟨h1,h2,h3,h4⟩:=h
 rw [List.take_of_length_le (l:=lb) (by omega)] at h4
 have hlt:=val_lt h2
 have h0:=val_nonneg h2
 rw [h1,hn] at hlt
 rcases hc with e | e
 ·subst e
  have hd:lz1.drop k=lz.drop k:=nth_ext (by simp [h1]) fun i hi=>by rw [nth_drop,nth_drop]; exact h3 _ (by omega)
  have e1:=val_split lz1 k (by omega)
  have e2:=val_split lz k (by omega)
  rw [hd] at e1
  have:val lz + val lb * m=val lz1:=by rw [e1,e2]; simp only [Int.mul_zero,Int.add_zero] at h4; omega
  rw [this]
  exact (Int.emod_eq_of_lt h0 hlt).symm
 ·have ek:k=n:=by omega
  subst ek
  rw [List.take_of_length_le (l:=lz1) (by omega),List.take_of_length_le (l:=lz) (by omega)] at h4
  rw [<- h4,Int.add_mul_emod_self_left]
  exact (Int.emod_eq_of_lt h0 hlt).symm
theorem addTimes_any (az : Option Addr) (bz oz nz cz : Nat) (ab : Option Addr) (bb ob nb cb : Nat) (m : Int) (lz lb : List Int) (w : World)
    (hnz : lz.length = nz) (hnb : lb.length = nb) (hle : nb ≤ nz) (hbig : nz ≤ 2199023255552) (hcz : nz ≤ cz) (hcb : nb ≤ cb) (hm0 : 0 ≤ m) (hm1 : m < 18446744073709551616)
    (wz : Words lz) (wb : Words lb) (hz : At w az bz oz lz) (hfz : Free w bz oz nz) (hb : At w ab bb ob lb) (hne : lb = [] ∨ bb ≠ bz) :
    Calls Tryz.prog 111 #[.slice az nz cz, .slice ab nb cb, .int .u64 m] w fun e w' => e = .returned (.tuple #[]) ∧
      ∃ lz', lz'.length = nz ∧ Words lz' ∧ At w' az bz oz lz' ∧ Wr bz oz nz w w' ∧ val lz' = (val lz + val lb * m) % 18446744073709551616 ^ nz := by
  go_enter Tryz.func111, Tryz.ntmps111
  go_wp2
  go_loopw [6, 14] (fun tc ti wr => ∃ (k : Nat) (c : Int) (lz1 : List Int), k ≤ nb ∧ ti = .int .i64 k ∧ tc = .int .u64 c ∧ 0 ≤ c ∧ c < 18446744073709551616 ∧ AddInv lz lb m k lz1 c ∧ At wr az bz oz lz1 ∧ Wr bz oz nz w wr) (fun _ ti _ => nb - (intOf ti).toNat)
  case atStart => exact ⟨0, 0, lz, Nat.zero_le _, rfl, rfl, by decide, by decide, ⟨rfl, wz, fun _ _ => rfl, by simp [val]⟩, hz, Wr.refl _ _ _ _⟩
  case round =>
    obtain ⟨k, c, lz1, hk, rfl, rfl, hc0, hc1, hinv, hat, hwr⟩ := hrel
    have hlen1 := hinv.1
    by_cases hlt : k < nb
    · rcases hb.loc with e | rfl
      · subst e; simp at hnb; omega
      rcases hz.loc with e | rfl
      · subst e; simp at hnz; omega
      have hb' := hb.wr hwr hne
      have hcb := hb'.cell k (by omega)
      have hcz := hat.cell k (by omega)
      have hfr := hwr.free hfz k (by omega)
      have hx := wb.nth k
      have hzz := wz.nth k
      rw [hinv.2.2.1 k (Nat.le_refl _)] at hcz
      obtain ⟨hx0, hx1⟩ := hx
      obtain ⟨hz0, hz1⟩ := hzz
      have HI : Hid (AddInv lz lb m k lz1 c) := hinv
      have HA : Hid (At wr (some ⟨bz, oz, none⟩) bz oz lz1) := hat
      have HW : Hid (Wr bz oz nz w wr) := hwr
      clear hinv hat hwr hb' hz hb hfz wz wb hne
      go_wp2_with (first
        | (go_at_call 133; refine (mul64_n _ _ hx0 hx1 hm0 hm1 _).mono ?_; rintro e w' ⟨hi, lo, rfl, h1, h2, h3, h4, h5, rfl⟩)
        | simp only [add64 _ _ h3 hc0]
        | simp only [add64_m _ _ hz0])
      have hxm : nth lb k * m ≤ 340282366920938463426481119284349108225 := by
        have := Int.mul_le_mul (show nth lb k ≤ 18446744073709551615 by omega) (show m ≤ 18446744073709551615 by omega) hm0 (by decide)
        simpa using this
      obtain ⟨s1, s2, s3, s4, s5⟩ := add_step (nth lz k) (nth lb k) m c hi lo ⟨hz0, hz1⟩ ⟨hc0, hc1⟩ h1 h2 h3 h4 h5 hxm
      rw [Int.add_emod_emod] at s5
      rw [IntWalk.u64_in _ ⟨s3, s4⟩]
      refine ⟨⟨k + 1, _, _, by omega, by go_num, rfl, s3, by omega, HI.out.step (by omega) (Int.emod_nonneg _ (by decide)) (Int.emod_lt_of_pos _ (by decide)) s5, HA.out.setCell (by omega) _, HW.out.setCell (by omega) (by omega) _⟩, by simp [intOf]; omega⟩
    · have hkn : k = nb := by omega
      subst hkn
      have HI : Hid (AddInv lz lb m k lz1 c) := hinv
      clear hinv
      go_wp2
      go_loopw [6, 11] (fun tc ti wr => ∃ (j : Nat) (c : Int) (lz1 : List Int), k ≤ j ∧ j ≤ nz ∧ ti = .int .i64 j ∧ tc = .int .u64 c ∧ 0 ≤ c ∧ c < 18446744073709551616 ∧ AddInv lz lb m j lz1 c ∧ At wr az bz oz lz1 ∧ Wr bz oz nz w wr) (fun _ ti _ => nz - (intOf ti).toNat)
      case atStart => exact ⟨k, c, lz1, Nat.le_refl _, by omega, rfl, rfl, hc0, hc1, HI.out, hat, hwr⟩
      case round =>
        clear hat hwr HI hlen1 hc0 hc1
        obtain ⟨j, d, lz2, hkj, hj, rfl, rfl, hd0, hd1, hinv, hat, hwr⟩ := hrel
        have hlen2 := hinv.1
        by_cases hlt2 : j < nz
        · by_cases hd : d = 0
          · subst hd
            go_wp2
            go_end0
            refine ⟨rfl, lz2, by omega, hinv.2.1, hat, hwr, ?_⟩
            exact AddInv.done (by omega) hinv (.inl rfl) (by omega) (by omega)
          · rcases hz.loc with e | rfl
            · subst e; simp at hnz; omega
            have hcz := hat.cell j (by omega)
            have hfr := hwr.free hfz j (by omega)
            have hzz := wz.nth j
            rw [hinv.2.2.1 j (Nat.le_refl _)] at hcz
            obtain ⟨hz0, hz1⟩ := hzz
            have hdb : (d != 0) = true := by rw [bne_iff_ne]; exact hd
            have HI : Hid (AddInv lz lb m j lz2 d) := hinv
            have HA : Hid (At wr (some ⟨bz, oz, none⟩) bz oz lz2) := hat
            have HW : Hid (Wr bz oz nz w wr) := hwr
            clear hinv hat hwr hz hb hfz wz wb hne
            go_wp2_with (simp only [add64 _ _ hz0 hd0])
            have s5 : (nth lz j + d) % 18446744073709551616 + 18446744073709551616 * ((nth lz j + d) / 18446744073709551616) = nth lz j + nth lb j * m + d := by
              rw [nth_ge (l := lb) (by omega)]; omega
            refine ⟨⟨j + 1, _, _, by omega, by omega, by go_num, rfl, by omega, by omega, HI.out.step (by omega) (Int.emod_nonneg _ (by decide)) (Int.emod_lt_of_pos _ (by decide)) s5, HA.out.setCell (by omega) _, HW.out.setCell (by omega) (by omega) _⟩, by simp [intOf]; omega⟩
        · have hjn : j = nz := by omega
          subst hjn
          go_wp2
          go_end0
          refine ⟨rfl, lz2, by omega, hinv.2.1, hat, hwr, ?_⟩
          exact AddInv.done (by omega) hinv (.inr hnz) (by omega) (by omega)
end
section
open Go.RowKit Lim
theorem isN_lt {l:List Int} {n:Int} (h:IsN l n):0<=n/\n < 18446744073709551616 ^ l.length:=by
 rw [<- h.2.2]; exact ⟨val_nonneg h.1,val_lt h.1⟩
theorem pow_pos (k:Nat):(0:Int) < 18446744073709551616 ^ k:=Int.pow_pos (by decide)
theorem add_fin {L L' lz:List Int} {x y:Int} (hL:IsN L x) (hL':IsN L' y) (hle:L'.length<=L.length) (hw:Words lz)
  (hv:val lz=(val (L ++ [0]) + val L' * 1) % 18446744073709551616 ^ (L.length + 1)):IsN (norm lz) (x + y):=by
 have h1:=isN_lt hL
 have h2:=isN_lt hL'
 have h3:=pow_mono hle
 have hp:=pow_pos L.length
 have e:val (L ++ [0]) + val L' * 1=x + y:=by rw [val_append,hL.2.2,hL'.2.2]; simp [val]
 rw [e,Int.emod_eq_of_lt (by omega) (by rw [Int.pow_succ]; omega)] at hv
 rw [<- hv]
 exact isN_norm hw
theorem words_zero (n:Nat):Words (List.replicate n 0):=fun x hx=>by rw [List.eq_of_mem_replicate hx]; decide
theorem add_any (ao:Option Addr) (n c b o:Nat) (ao':Option Addr) (n' c' b' o':Nat) (l l':List Int) (w:World) (hl:l.length=n) (hl':l'.length=n') (hc:n<=c) (hc':n'<=c') (hbig:n<=1099511627776) (hbig':n'<=1099511627776)
  (wl:Words l) (wl':Words l') (ha:At w ao b o l) (ha':At w ao' b' o' l') :
  Calls Tryz.prog 87 #[.slice ao n c,.slice ao' n' c'] w fun e w'=>∃ v r,e=.returned v/\NewV w w' v r/\IsN r (val l + val l')/\r.length<=n + n' + 1/\Below w.heap.size w w':=by
 have hn:=nlen_le l
 have hn':=nlen_le l'
 have t1:=trim_any ao n c l w hl hc (by omega) ha.cells
 have t2:=trim_any ao' n' c' l' w hl' hc' (by omega) ha'.cells
 have hs:=ha.sub (nlen l)
 have hs':=ha'.sub (nlen l')
 have hnl:=norm_length l
 have hnl':=norm_length l'
 have hI:=isN_norm wl
 have hI':=isN_norm wl'
 rw [show l.take (nlen l)=norm l from rfl] at hs
 rw [show l'.take (nlen l')=norm l' from rfl] at hs'
 generalize nlen l=N at *
 generalize nlen l'=N' at *
 generalize norm l=L at *
 generalize norm l'=L' at *
 clear ha ha'
 go_enter Tryz.func87,Tryz.ntmps87
 go_wp2_with fail
 refine t1.mono ?_
 rintro e w1 ⟨rfl,rfl⟩
 go_wp2_with fail
 refine t2.mono ?_
 rintro e w2 ⟨rfl,rfl⟩
 clear t1 t2
 by_cases hlt:N < N'
 ·have hne:L=[]\/b≠w2.heap.size:=by
   rcases hs.lt with e | e
   ·exact .inl e
   ·exact .inr (by omega)
  go_wp2_with (first
   | (at_make; refine wpList_makeN rfl _ _ rfl (N' + 1) _ _ rfl rfl (by omega) (by omega) (by omega) ?_; intro w3 hrow hbel hsz; have hs3:=hs'.keep hbel; have hs4:=hs.keep hbel)
   | (refine wpList_copyN rfl (.tmp 23) (.tmp 24) rfl _ _ _ _ _ _ rfl rfl _ _ hrow (by simp) _ _ hnl' (by omega) hs3 ?_; intro w4 hrow4 hwr4))
  have hr4:Row w4 w2.heap.size (L' ++ [0]):=by
   have:=hrow4; rw [List.drop_replicate,show N' + 1 - N'=1 from by omega] at this; simpa using this
  have hs5:=hs4.wr hwr4 hne
  refine (addTimes_any _ w2.heap.size 0 _ _ _ b o _ _ 1 (L' ++ [0]) L w4 (by simp [hnl']) hnl (by omega) (by omega) (Nat.le_refl _) (Nat.le_refl _) (by decide) (by decide) (hI'.1.append (words_zero 1)) hI.1 hr4.at (hr4.free _ _) hs5 hne).mono ?_
  rintro e w5 ⟨rfl,lz,hlz,hwz,hatz,hwr5,hvz⟩
  have HF:IsN (norm lz) (_ + _):=add_fin hI' hI (by omega) hwz (by rw [hvz,hnl'])
  have hfz:=hwr5.free (hr4.free 0 (N' + 1))
  have hz1:=nlen_le lz
  have hz2:=norm_length lz
  have hz3:=hatz.sub (nlen lz)
  have HB:=(hbel.trans (hwr4.below (Nat.le_refl _))).trans (hwr5.below (Nat.le_refl _))
  rw [show lz.take (nlen lz)=norm lz from rfl] at hz3
  have t3:=trim_any (some ⟨w2.heap.size,0,none⟩) (N' + 1) (N' + 1) lz w5 hlz (Nat.le_refl _) (by omega) hatz.cells
  clear hr4 hs5 hs4 hs3 hrow hrow4 hwr4 hwr5 hbel hatz hvz
  generalize nlen lz=K at *
  generalize norm lz=R at *
  go_wp2_with fail
  refine t3.mono ?_
  rintro e w6 ⟨rfl,rfl⟩
  go_wp2
  go_ret
  exact ⟨_,R,rfl,NewV.of hz2.symm (Nat.le_refl _) (Nat.le_refl _) hz3 (fun i hi=>hfz i (by omega)),by rw [Int.add_comm]; exact HF,by omega,HB⟩
 ·have hne:L'=[]\/b'≠w2.heap.size:=by
   rcases hs'.lt with e | e
   ·exact .inl e
   ·exact .inr (by omega)
  go_wp2_with (first
   | (at_make; refine wpList_makeN rfl _ _ rfl (N + 1) _ _ rfl rfl (by omega) (by omega) (by omega) ?_; intro w3 hrow hbel hsz; have hs3:=hs.keep hbel; have hs4:=hs'.keep hbel)
   | (refine wpList_copyN rfl (.tmp 23) (.tmp 24) rfl _ _ _ _ _ _ rfl rfl _ _ hrow (by simp) _ _ hnl (by omega) hs3 ?_; intro w4 hrow4 hwr4))
  have hr4:Row w4 w2.heap.size (L ++ [0]):=by
   have:=hrow4; rw [List.drop_replicate,show N + 1 - N=1 from by omega] at this; simpa using this
  have hs5:=hs4.wr hwr4 hne
  refine (addTimes_any _ w2.heap.size 0 _ _ _ b' o' _ _ 1 (L ++ [0]) L' w4 (by simp [hnl]) hnl' (by omega) (by omega) (Nat.le_refl _) (Nat.le_refl _) (by decide) (by decide) (hI.1.append (words_zero 1)) hI'.1 hr4.at (hr4.free _ _) hs5 hne).mono ?_
  rintro e w5 ⟨rfl,lz,hlz,hwz,hatz,hwr5,hvz⟩
  have HF:IsN (norm lz) (_ + _):=add_fin hI hI' (by omega) hwz (by rw [hvz,hnl])
  have hfz:=hwr5.free (hr4.free 0 (N + 1))
  have hz1:=nlen_le lz
  have hz2:=norm_length lz
  have hz3:=hatz.sub (nlen lz)
  have HB:=(hbel.trans (hwr4.below (Nat.le_refl _))).trans (hwr5.below (Nat.le_refl _))
  rw [show lz.take (nlen lz)=norm lz from rfl] at hz3
  have t3:=trim_any (some ⟨w2.heap.size,0,none⟩) (N + 1) (N + 1) lz w5 hlz (Nat.le_refl _) (by omega) hatz.cells
  clear hr4 hs5 hs4 hs3 hrow hrow4 hwr4 hwr5 hbel hatz hvz
  generalize nlen lz=K at *
  generalize norm lz=R at *
  go_wp2_with fail
  refine t3.mono ?_
  rintro e w6 ⟨rfl,rfl⟩
  go_wp2
  go_ret
  exact ⟨_,R,rfl,NewV.of hz2.symm (Nat.le_refl _) (Nat.le_refl _) hz3 (fun i hi=>hfz i (by omega)),HF,by omega,HB⟩
end
section
open Go.RowKit Lim
theorem bor_01 (x y:Int):0<=bor x y/\bor x y<=1:=by unfold bor; split<;>decide
theorem sub_mod (x y:Int) (hx:0<=x/\x < 18446744073709551616) (hy:0<=y/\y < 18446744073709551616):(x - y) % 18446744073709551616=x - y + 18446744073709551616 * bor x y:=by
 unfold bor; split<;>omega
theorem sub64_m (x y:Int) (hx:0<=x) (hx':x < 18446744073709551616) (w:World):(callFunc 135 #[.int .u64 x,.int .u64 (y % 18446744073709551616),.int .u64 0]).run Tryz.prog w =
  .ok (.value (.tuple #[.int .u64 ((x - y % 18446744073709551616) % 18446744073709551616),.int .u64 (bor x (y % 18446744073709551616))])) w :=
 sub64 x _ hx hx' (Int.emod_nonneg _ (by decide)) (Int.emod_lt_of_pos _ (by decide)) w
theorem take_step (z x m c hi lo:Int) (hz:0<=z/\z < 18446744073709551616) (hc:0<=c/\c < 18446744073709551616) (h1:0<=hi) (h2:hi<=18446744073709551614) (h3:0<=lo) (h4:lo < 18446744073709551616) (h5:hi * 18446744073709551616 + lo=x * m)
  (hb:x * m<=340282366920938463426481119284349108225) :
  0<=hi + (lo + c) / 18446744073709551616/\hi + (lo + c) / 18446744073709551616<=18446744073709551615 /\
  0<=hi + (lo + c) / 18446744073709551616 + bor z ((lo + c) % 18446744073709551616) /\
  hi + (lo + c) / 18446744073709551616 + bor z ((lo + c) % 18446744073709551616)<=18446744073709551615 /\
  (z - (lo + c) % 18446744073709551616) % 18446744073709551616 + 18446744073709551616 * (-(hi + (lo + c) / 18446744073709551616 + bor z ((lo + c) % 18446744073709551616)))=z + x * -m + -c:=by
 rw [sub_mod z _ hz ⟨by omega,by omega⟩,show x * -m = -(x * m) from Int.mul_neg x m]
 have:=bor_01 z ((lo + c) % 18446744073709551616)
 unfold bor at *
 split<;>omega
theorem AddInv.owed {lz lb lz1:List Int} {m c:Int} {k n:Nat} (hn:lz.length=n) (h:AddInv lz lb m k lz1 c) (hc:c=0\/lz.length=k) (hk:lb.length<=k) (hkn:k<=n) :
  val lz1 + 18446744073709551616 ^ n * c=val lz + val lb * m:=by
 obtain ⟨h1,h2,h3,h4⟩:=h
 rw [List.take_of_length_le (l:=lb) (by omega)] at h4
 rcases hc with e | e
 ·subst e
  have hd:lz1.drop k=lz.drop k:=nth_ext (by simp [h1]) fun i hi=>by rw [nth_drop,nth_drop]; exact h3 _ (by omega)
  have e1:=val_split lz1 k (by omega)
  have e2:=val_split lz k (by omega)
  rw [hd] at e1
  simp only [Int.mul_zero,Int.add_zero] at h4 ⊢
  rw [e1,e2]; omega
 ·have ek:k=n:=by omega
  subst ek
  rw [List.take_of_length_le (l:=lz1) (by omega),List.take_of_length_le (l:=lz) (by omega)] at h4
  exact h4
theorem takeTimes_any (az : Option Addr) (bz oz nz cz : Nat) (ab : Option Addr) (bb ob nb cb : Nat) (m : Int) (lz lb : List Int) (w : World)
    (hnz : lz.length = nz) (hnb : lb.length = nb) (hle : nb ≤ nz) (hbig : nz ≤ 2199023255552) (hcz : nz ≤ cz) (hcb : nb ≤ cb) (hm0 : 0 ≤ m) (hm1 : m < 18446744073709551616)
    (wz : Words lz) (wb : Words lb) (hz : At w az bz oz lz) (hfz : Free w bz oz nz) (hb : At w ab bb ob lb) (hne : lb = [] ∨ bb ≠ bz) :
    Calls Tryz.prog 112 #[.slice az nz cz, .slice ab nb cb, .int .u64 m] w fun e w' => ∃ owed : Int, e = .returned (.int .u64 owed) ∧ 0 ≤ owed ∧ owed < 18446744073709551616 ∧
      ∃ lz', lz'.length = nz ∧ Words lz' ∧ At w' az bz oz lz' ∧ Wr bz oz nz w w' ∧ val lz' = val lz - val lb * m + 18446744073709551616 ^ nz * owed := by
  have fin : ∀ (j : Nat) (d : Int) (lz2 : List Int) (wr : World), nb ≤ j → j ≤ nz → 0 ≤ d → d < 18446744073709551616 → AddInv lz lb (-m) j lz2 (-d) → At wr az bz oz lz2 → Wr bz oz nz w wr → (d = 0 ∨ nz = j) →
      ∃ owed : Int, Ending.returned (.int .u64 d) = .returned (.int .u64 owed) ∧ 0 ≤ owed ∧ owed < 18446744073709551616 ∧
      ∃ lz', lz'.length = nz ∧ Words lz' ∧ At wr az bz oz lz' ∧ Wr bz oz nz w wr ∧ val lz' = val lz - val lb * m + 18446744073709551616 ^ nz * owed := by
    intro j d lz2 wr h1 h2 h3 h4 h5 h6 h7 h8
    refine ⟨d, rfl, h3, h4, lz2, by rw [h5.1, hnz], h5.2.1, h6, h7, ?_⟩
    have := h5.owed hnz (by rcases h8 with e | e
                            · left; omega
                            · right; omega) (by omega) h2
    rw [Int.mul_neg, Int.mul_neg] at this
    omega
  have FIN := (show Hid _ from fin)
  clear fin
  go_enter Tryz.func112, Tryz.ntmps112
  go_wp2
  go_loopw [7, 15] (fun tc ti wr => ∃ (k : Nat) (c : Int) (lz1 : List Int), k ≤ nb ∧ ti = .int .i64 k ∧ tc = .int .u64 c ∧ 0 ≤ c ∧ c < 18446744073709551616 ∧ AddInv lz lb (-m) k lz1 (-c) ∧ At wr az bz oz lz1 ∧ Wr bz oz nz w wr) (fun _ ti _ => nb - (intOf ti).toNat)
  case atStart => exact ⟨0, 0, lz, Nat.zero_le _, rfl, rfl, by decide, by decide, ⟨rfl, wz, fun _ _ => rfl, by simp [val]⟩, hz, Wr.refl _ _ _ _⟩
  case round =>
    obtain ⟨k, c, lz1, hk, rfl, rfl, hc0, hc1, hinv, hat, hwr⟩ := hrel
    have hlen1 := hinv.1
    by_cases hlt : k < nb
    · rcases hb.loc with e | rfl
      · subst e; simp at hnb; omega
      rcases hz.loc with e | rfl
      · subst e; simp at hnz; omega
      have hb' := hb.wr hwr hne
      have hcb := hb'.cell k (by omega)
      have hcz := hat.cell k (by omega)
      have hfr := hwr.free hfz k (by omega)
      have hx := wb.nth k
      have hzz := wz.nth k
      rw [hinv.2.2.1 k (Nat.le_refl _)] at hcz
      obtain ⟨hx0, hx1⟩ := hx
      obtain ⟨hz0, hz1⟩ := hzz
      have HI : Hid (AddInv lz lb (-m) k lz1 (-c)) := hinv
      have HA : Hid (At wr (some ⟨bz, oz, none⟩) bz oz lz1) := hat
      have HW : Hid (Wr bz oz nz w wr) := hwr
      clear hinv hat hwr hb' hz hb hfz wz wb hne
      go_wp2_with (first
        | (go_at_call 133; refine (mul64_n _ _ hx0 hx1 hm0 hm1 _).mono ?_; rintro e w' ⟨hi, lo, rfl, h1, h2, h3, h4, h5, rfl⟩)
        | simp only [add64 _ _ h3 hc0]
        | simp only [sub64_m _ _ hz0 hz1])
      have hxm : nth lb k * m ≤ 340282366920938463426481119284349108225 := by
        have := Int.mul_le_mul (show nth lb k ≤ 18446744073709551615 by omega) (show m ≤ 18446744073709551615 by omega) hm0 (by decide)
        simpa using this
      obtain ⟨s1, s2, s3, s4, s5⟩ := take_step (nth lz k) (nth lb k) m c hi lo ⟨hz0, hz1⟩ ⟨hc0, hc1⟩ h1 h2 h3 h4 h5 hxm
      rw [Int.sub_emod_emod] at s5
      rw [IntWalk.u64_in _ ⟨s3, s4⟩]
      refine ⟨⟨k + 1, _, _, by omega, by go_num, rfl, s3, by omega, HI.out.step (by omega) (Int.emod_nonneg _ (by decide)) (Int.emod_lt_of_pos _ (by decide)) s5, HA.out.setCell (by omega) _, HW.out.setCell (by omega) (by omega) _⟩, by simp [intOf]; omega⟩
    · have hkn : k = nb := by omega
      subst hkn
      have HI : Hid (AddInv lz lb (-m) k lz1 (-c)) := hinv
      clear hinv
      go_wp2
      go_loopw [7, 12] (fun tc ti wr => ∃ (j : Nat) (c : Int) (lz1 : List Int), k ≤ j ∧ j ≤ nz ∧ ti = .int .i64 j ∧ tc = .int .u64 c ∧ 0 ≤ c ∧ c < 18446744073709551616 ∧ AddInv lz lb (-m) j lz1 (-c) ∧ At wr az bz oz lz1 ∧ Wr bz oz nz w wr) (fun _ ti _ => nz - (intOf ti).toNat)
      case atStart => exact ⟨k, c, lz1, Nat.le_refl _, by omega, rfl, rfl, hc0, hc1, HI.out, hat, hwr⟩
      case round =>
        clear hat hwr HI hlen1 hc0 hc1
        obtain ⟨j, d, lz2, hkj, hj, rfl, rfl, hd0, hd1, hinv, hat, hwr⟩ := hrel
        have hlen2 := hinv.1
        by_cases hlt2 : j < nz
        · by_cases hd : d = 0
          · subst hd
            go_wp2
            go_ret
            exact FIN.out j 0 lz2 _ hkj hj hd0 hd1 hinv hat hwr (.inl rfl)
          · rcases hz.loc with e | rfl
            · subst e; simp at hnz; omega
            have hcz := hat.cell j (by omega)
            have hfr := hwr.free hfz j (by omega)
            have hzz := wz.nth j
            rw [hinv.2.2.1 j (Nat.le_refl _)] at hcz
            obtain ⟨hz0, hz1⟩ := hzz
            have hdb : (d != 0) = true := by rw [bne_iff_ne]; exact hd
            have HI : Hid (AddInv lz lb (-m) j lz2 (-d)) := hinv
            have HA : Hid (At wr (some ⟨bz, oz, none⟩) bz oz lz2) := hat
            have HW : Hid (Wr bz oz nz w wr) := hwr
            clear hinv hat hwr hz hb hfz wz wb hne
            go_wp2_with (simp only [sub64 _ _ hz0 hz1 hd0 hd1])
            have hbb := bor_01 (nth lz j) d
            have s5 : (nth lz j - d) % 18446744073709551616 + 18446744073709551616 * -bor (nth lz j) d = nth lz j + nth lb j * -m + -d := by
              rw [nth_ge (l := lb) (by omega), sub_mod _ _ ⟨hz0, hz1⟩ ⟨hd0, hd1⟩]; omega
            refine ⟨⟨j + 1, _, _, by omega, by omega, by go_num, rfl, by omega, by omega, HI.out.step (by omega) (Int.emod_nonneg _ (by decide)) (Int.emod_lt_of_pos _ (by decide)) s5, HA.out.setCell (by omega) _, HW.out.setCell (by omega) (by omega) _⟩, by simp [intOf]; omega⟩
        · have hjn : j = nz := by omega
          subst hjn
          go_wp2
          go_ret
          exact FIN.out j d lz2 _ hkj hj hd0 hd1 hinv hat hwr (.inr rfl)
end
section
open Go.RowKit Lim
end
section
open Go.RowKit Lim
theorem Row.built (w:World) (l:List Int):Row (w.alloc (.cells (l.map (Value.int .u64)).toArray 31)) w.heap.size l:=by
 show (w.heap.push _)[w.heap.size]? = _
 rw [Array.getElem?_push_size]
theorem Row.built1 (w:World) (x:Int):Row (w.alloc (.cells #[.int .u64 x] 31)) w.heap.size [x]:=Row.built w [x]
theorem below_alloc (w:World) (o:Obj):Below w.heap.size w (w.alloc o):=(Below.refl _ _).alloc (Nat.le_refl _) _
theorem of_any (x:Int) (w:World) (h0:0<=x) (h1:x < 18446744073709551616) :
  Calls Tryz.prog 38 #[.int .u64 x] w fun e w'=>∃ v r,e=.returned v/\NewV w w' v r/\IsN r x/\r.length<=1/\Below w.heap.size w w':=by
 have hr:=Row.built1 w x
 have hb:=below_alloc w (.cells #[.int .u64 x] 31)
 have hw:Words [x]:=Words.cons h0 h1 Words.nil
 have t1:=trim_any (some ⟨w.heap.size,0,none⟩) 1 1 [x] (w.alloc (.cells #[.int .u64 x] 31)) rfl (by decide) (by decide) hr.at.cells
 have hz1:=nlen_le [x]
 have hz2:=norm_length [x]
 have hz3:=hr.at.sub (nlen [x])
 have HF:IsN (norm [x]) x:=by have:=isN_norm hw; rwa [val_single] at this
 have hfz:=hr.free 0 1
 rw [show [x].take (nlen [x])=norm [x] from rfl] at hz3
 rw [List.length_singleton] at hz1
 generalize nlen [x]=K at *
 generalize norm [x]=R at *
 clear hr
 go_enter Tryz.func38,Tryz.ntmps38
 go_wp2_with fail
 refine t1.mono ?_
 rintro e w6 ⟨rfl,rfl⟩
 go_wp2
 go_ret
 exact ⟨_,R,rfl,NewV.of hz2.symm (Nat.le_refl _) (Nat.le_refl _) hz3 (fun i hi=>hfz i (by omega)),HF,by omega,hb⟩
def DivPost (w w':World) (e:Ending) (x y:Int) (n n':Nat):Prop :=
 ∃ v u r s,e=.returned (.tuple #[v,u,.int .i64 0])/\NewV w w' v r/\NewV w w' u s/\IsN r (x / y)/\IsN s (x % y)/\r.length<=n/\s.length<=n + n'/\Below w.heap.size w w'
theorem NewV.nil (w w':World):NewV w w' (.slice none 0 0) []:=⟨none,w.heap.size,0,0,rfl,Nat.le_refl _,Nat.le_refl _,⟨.inl rfl,fun i hi=>by simp at hi⟩,fun i hi=>by simp at hi⟩
theorem isN_nil:IsN [] 0:=⟨Words.nil,rfl,rfl⟩
theorem NewV.later {w w1 w2:World} {v:Value} {l:List Int} (h:NewV w w1 v l) (hb:Below w1.heap.size w1 w2):NewV w w2 v l:=by
 obtain ⟨ao,b,o,c,e,h1,h2,h3,h4⟩:=h
 refine ⟨ao,b,o,c,e,h1,h2,h3.keep hb,fun i hi => ?_⟩
 have hlt:=cell_lt (h3.cell i hi)
 rw [hb.frozen (p:=⟨b,o + i,none⟩) hlt]; exact h4 i hi
theorem NewV.mono {w0 w w1:World} {v:Value} {l:List Int} (h:NewV w w1 v l) (hb:w0.heap.size<=w.heap.size):NewV w0 w1 v l:=by
 obtain ⟨ao,b,o,c,e,h1,h2,h3,h4⟩:=h
 exact ⟨ao,b,o,c,e,h1,by omega,h3,h4⟩
theorem div_lt (ao:Option Addr) (n c b o:Nat) (ao':Option Addr) (n' c' b' o':Nat) (l l':List Int) (w:World) (hl:l.length=n) (hl':l'.length=n') (hc:n<=c) (hc':n'<=c') (hbig:n<=1099511627776) (hbig':n'<=1099511627776)
  (wl:Words l) (wl':Words l') (ha:At w ao b o l) (ha':At w ao' b' o' l') (hlt:val l < val l') :
  Calls Tryz.prog 132 #[.slice ao n c,.slice ao' n' c'] w fun e w'=>DivPost w w' e (val l) (val l') n n':=by
 have h0:=val_nonneg wl
 have hn:=nlen_le l
 have hn':=nlen_le l'
 have hk0:nlen l'≠0:=fun e=>by have:=(nlen_eq_zero_iff_val wl').1 e; omega
 have t1:=trim_any ao' n' c' l' w hl' hc' (by omega) ha'.cells
 have hs':=ha'.sub (nlen l')
 rw [show l'.take (nlen l')=norm l' from rfl] at hs'
 have t2:=cmp_any ao n c b o ao' (nlen l') (nlen l') b' o' l (norm l') w hl (norm_length l') hc (Nat.le_refl _) hbig (by omega) wl wl'.norm ha hs'
 rw [val_norm,sgn_lt hlt] at t2
 have HI:=isN_norm wl
 have hnl:=norm_length l
 have hnb:((nlen l':Int) == 0)=false:=beq_eq_false_iff_ne.2 (by omega)
 go_enter Tryz.func132,Tryz.ntmps132
 go_wp2_with fail
 refine t1.mono ?_
 rintro e w1 ⟨rfl,rfl⟩
 go_wp2_with fail
 refine t2.mono ?_
 rintro e w2 ⟨rfl,hb2⟩
 go_wp2_with fail
 refine (norm_any ao n c b o l w2 hl hc hbig (ha.keep hb2)).mono ?_
 rintro e w3 ⟨rfl,hrow,hb3⟩
 clear t1 t2
 go_wp2
 go_ret3
 have hsz:=hb2.size
 exact ⟨_,_,[],norm l,rfl,NewV.nil _ _,NewV.of hnl.symm (Nat.le_refl _) hsz hrow.at (hrow.free _ _),by rw [Int.ediv_eq_zero_of_lt h0 hlt]; exact isN_nil,by rw [Int.emod_eq_of_lt h0 hlt]; exact HI,by simp,by omega,hb2.trans (hb3.mono hsz)⟩
theorem div_one (ao:Option Addr) (n c b o:Nat) (ao':Option Addr) (n' c' b' o':Nat) (l l':List Int) (w:World) (hl:l.length=n) (hl':l'.length=n') (hc:n<=c) (hc':n'<=c') (hbig:n<=1099511627776) (hbig':n'<=1099511627776)
  (wl:Words l) (wl':Words l') (ha:At w ao b o l) (ha':At w ao' b' o' l') (hge:val l'<=val l) (h1:nlen l'=1) :
  Calls Tryz.prog 132 #[.slice ao n c,.slice ao' n' c'] w fun e w'=>DivPost w w' e (val l) (val l') n n':=by
 have h0:=val_nonneg wl
 have hn:=nlen_le l
 have hn':=nlen_le l'
 have t1:=trim_any ao' n' c' l' w hl' hc' (by omega) ha'.cells
 have hs':=ha'.sub (nlen l')
 rw [show l'.take (nlen l')=norm l' from rfl] at hs'
 have t2:=cmp_any ao n c b o ao' (nlen l') (nlen l') b' o' l (norm l') w hl (norm_length l') hc (Nat.le_refl _) hbig (by omega) wl wl'.norm ha hs'
 rw [val_norm] at t2
 have hs0:0<=sgn (val l) (val l'):=by unfold sgn; split<;>(try split)<;>omega
 have hnl':=norm_length l'
 have hI':=isN_norm wl'
 rw [h1] at t1 t2 hnl'
 generalize hN':norm l'=L' at *
 obtain ⟨d,rfl⟩:=List.length_eq_one_iff.1 hnl'
 have hd:val l'=d:=by have:=hI'.2.2; rw [val_single] at this; exact this.symm
 have hdw:=hI'.1 d (by simp)
 have hd0:0 < d:=by
  have h2:=hI'.2.1
  by_cases c:d=0
  ·subst c; simp [nlen] at h2
  ·omega
 rw [hd] at hge t2 ⊢
 rw [hd] at hs0
 generalize sgn (val l) d=sg at *
 rcases hs'.loc with e | rfl
 ·simp at e
 go_enter Tryz.func132,Tryz.ntmps132
 go_wp2_with fail
 refine t1.mono ?_
 rintro e w1 ⟨rfl,rfl⟩
 go_wp2_with fail
 refine t2.mono ?_
 rintro e w2 ⟨rfl,hb2⟩
 go_wp2_with fail
 refine (norm_any ao n c b o l w2 hl hc hbig (ha.keep hb2)).mono ?_
 rintro e w3 ⟨rfl,hrow,hb3⟩
 have hsz:=hb2.size
 have hsz3:=hb3.size
 have hcd:=((hs'.keep hb2).keep hb3).cell 0 (by simp)
 rw [nth_zero] at hcd
 rw [Nat.add_zero] at hcd
 have hwn:=wl.norm
 have hvn:=val_norm l
 have hnl:=norm_length l
 clear t1 t2
 generalize nlen l=N at *
 generalize norm l=L at *
 go_wp2_with fail
 refine (divideSmall_any (some ⟨w2.heap.size,0,none⟩) w2.heap.size 0 N N d L w3 hnl (by omega) (Nat.le_refl _) hd0 hdw.2 hwn hrow.at (hrow.free _ _)).mono ?_
 rintro e w4 ⟨left,lz,rfl,hf0,hf1,hlz,hwz,hatz,hwr,hvz⟩
 have hfz:=hwr.free (hrow.free 0 N)
 have hz1:=nlen_le lz
 have hz2:=norm_length lz
 have hz3:=hatz.sub (nlen lz)
 have HF:=isN_norm hwz
 have hrow4:=hwr.size
 have hlt3:=hrow.lt
 rw [show lz.take (nlen lz)=norm lz from rfl] at hz3
 have t3:=trim_any (some ⟨w2.heap.size,0,none⟩) N N lz w4 hlz (Nat.le_refl _) (by omega) hatz.cells
 have HB:Below w1.heap.size w1 w4:=(hb2.trans (hb3.mono hsz)).trans (hwr.below hsz)
 have ev:val lz=val l / d/\left=val l % d:=by
  have hh:=Int.ediv_emod_unique (a:=val l) (b:=d) (r:=left) (q:=val lz) hd0
  have:=hh.2 ⟨by rw [<- hvn,<- hvz,Int.mul_comm]; omega,hf0,hf1⟩
  exact ⟨this.1.symm,this.2.symm⟩
 rw [ev.1] at HF
 have hleft:Hid (left=val l % d):=ev.2
 clear hwr hrow hvz hb2 hb3 hs' ev
 generalize nlen lz=K at *
 generalize norm lz=R at *
 go_wp2_with fail
 refine t3.mono ?_
 rintro e w5 ⟨rfl,rfl⟩
 go_wp2_with fail
 refine (of_any left w5 hf0 (by omega)).mono ?_
 rintro e w6 ⟨u,s,rfl,hnew,hIs,hsl,hb6⟩
 go_wp2
 go_ret3
 refine ⟨_,u,R,s,rfl,(NewV.of hz2.symm (Nat.le_refl _) hsz hz3 (fun i hi=>hfz i (by omega))).later hb6,hnew.mono (by omega),HF,by rw [<- hleft.out]; exact hIs,by omega,by omega,HB.trans (hb6.mono (by omega))⟩
end
section
open Go.RowKit Lim
theorem pow2_bounds (s:Nat) (hs:s<=63):(0:Int) < 2 ^ s/\(2:Int) ^ s < 18446744073709551616/\(2:Int) ^ s * 2 ^ (64 - s)=18446744073709551616/\(0:Int) < 2 ^ (64 - s):=by
 have h1:(0:Int) < 2 ^ s:=Int.pow_pos (by decide)
 have h2:(2:Nat) ^ s<=2 ^ 63:=Nat.pow_le_pow_right (by decide) hs
 have e:((2 ^ s:Nat):Int)=(2:Int) ^ s:=by rw [Int.natCast_pow]; rfl
 have e2:(2:Nat) ^ 63=9223372036854775808:=by decide
 refine ⟨h1,by omega,?_,Int.pow_pos (by decide)⟩
 rw [<- Int.pow_add,show s + (64 - s)=64 from by omega]; rfl
theorem raise_any (ao:Option Addr) (n c b o s:Nat) (l:List Int) (w:World) (hl:l.length=n) (hc:n<=c) (hbig:n<=1099511627776) (hs:s<=63) (wl:Words l) (ha:At w ao b o l) :
  Calls Tryz.prog 152 #[.slice ao n c,.int .i64 s] w fun e w'=>∃ lz,e=.returned (.slice (some ⟨w.heap.size,0,none⟩) (n + 1) (n + 1))/\lz.length=n + 1/\Words lz/\At w' (some ⟨w.heap.size,0,none⟩) w.heap.size 0 lz/\Free w' w.heap.size 0 (n + 1)/\w.heap.size < w'.heap.size/\val lz=val l * 2 ^ s/\Below w.heap.size w w':=by
 obtain ⟨p1,p2,p3,p4⟩:=pow2_bounds s hs
 have hne:l=[]\/b≠w.heap.size:=by
  rcases ha.lt with e | e
  ·exact .inl e
  ·exact .inr (by omega)
 have hv0:=val_nonneg wl
 have hv1:=val_lt wl
 have HV:Hid (0<=val l * 2 ^ s/\val l * 2 ^ s < 18446744073709551616 ^ (n + 1)):=by
  refine ⟨Int.mul_nonneg hv0 (Int.le_of_lt p1),?_⟩
  have h1:val l * 2 ^ s<=val l * 18446744073709551616:=Int.mul_le_mul_of_nonneg_left (by omega) hv0
  rw [hl] at hv1
  rw [Int.pow_succ]; omega
 obtain ⟨S,hS⟩:∃ S,(2:Int) ^ s=S:=⟨_,rfl⟩
 rw [hS] at p1 p2 HV ⊢
 have hwr:IntKind.u64.wrap S=S:=IntWalk.u64_in _ ⟨by omega,by omega⟩
 clear p3 p4 hv0 hv1
 go_enter Tryz.func152,Tryz.ntmps152
 go_wp2_with (at_make; refine wpList_makeN rfl _ _ rfl (n + 1) _ _ rfl rfl (by omega) (by omega) (by omega) ?_; intro w1 hrow hbel hsz)
 have ha1:=ha.keep hbel
 refine (addTimes_any _ w.heap.size 0 (n + 1) (n + 1) ao b o n c S (List.replicate (n + 1) 0) l w1 (by simp) hl (by omega) (by omega) (Nat.le_refl _) hc (by omega) p2 (words_zero _) wl hrow.at (hrow.free _ _) ha1 hne).mono ?_
 rintro e w2 ⟨rfl,lz,hlz,hwz,hatz,hwr2,hvz⟩
 have hfz:=hwr2.free (hrow.free 0 (n + 1))
 have hlt:=hrow.lt
 have hsz2:=hwr2.size
 rw [val_zeros (l:=List.replicate (n + 1) 0) (fun i=>by simp [nth,List.getElem?_replicate]; split<;>rfl),Int.zero_add,Int.emod_eq_of_lt HV.out.1 HV.out.2] at hvz
 have HZ:=(show Hid _ from hvz)
 have HB:=hbel.trans (hwr2.below (Nat.le_refl _))
 have hlt2:w.heap.size < w2.heap.size:=by omega
 clear hvz hsz2 hsz hrow hwr2 hbel
 go_wp2
 go_ret
 exact ⟨lz,rfl,hlz,hwz,hatz,hfz,hlt2,HZ.out,HB⟩
structure LowInv (lz:List Int) (S:Int) (h:Nat) (lz1:List Int):Prop where
 len:lz1.length=lz.length
 words:Words lz1
 low:∀ i,i < h->nth lz1 i=nth lz i
 val:Lim.val (lz1.drop h)=Lim.val (lz.drop h) / S
theorem top_mod {l:List Int} (S T:Int) (h:S * T=18446744073709551616) (k:Nat):val (l.drop k) % S=nth l k % S:=by
 by_cases hk:k < l.length
 ·rw [val_drop hk,<- h,Int.mul_assoc,Int.add_mul_emod_self_left]
 ·rw [List.drop_of_length_le (by omega),nth_ge (by omega)]; rfl
theorem LowInv.step {lz lz1:List Int} {S T z':Int} {h:Nat} (hS:0 < S) (hST:S * T=18446744073709551616) (hv:LowInv lz S (h + 1) lz1) (hh:h < lz.length) (z0:0<=z') (z1:z' < 18446744073709551616)
  (e:z'=nth lz h / S + T * (nth lz (h + 1) % S)):LowInv lz S h (lz1.set h z'):=by
 have hl:=hv.len
 refine ⟨by simp [hl],hv.words.set h z0 z1,fun i hi=>by rw [nth_set (by omega),if_neg (by omega)]; exact hv.low i (by omega),?_⟩
 rw [val_drop (by simp; omega),nth_set (by omega),if_pos rfl,List.drop_set,if_pos (by omega),hv.val,val_drop hh,e,<- top_mod S T hST (h + 1)]
 generalize Lim.val (lz.drop (h + 1))=Y
 have e1:nth lz h + 18446744073709551616 * Y=nth lz h + S * (T * Y):=by rw [<- hST]; grind
 rw [e1,Int.add_mul_ediv_left _ _ (by omega)]
 have e2:=Int.mul_ediv_add_emod Y S
 have e3:T * Y=T * (S * (Y / S) + Y % S):=by rw [e2]
 rw [e3,<- hST]
 grind
theorem low_limb {x y S T:Int} (s:Nat) (eS:S=2 ^ s) (eT:T=2 ^ (64 - s)) (hs:s<=63) (hx:0<=x/\x < 18446744073709551616) :
  bits .or .u64 (x / S) (IntKind.u64.wrap (y * T))=x / S + T * (y % S)/\0<=x / S + T * (y % S)/\x / S + T * (y % S) < 18446744073709551616:=by
 obtain ⟨p1,p2,p3,p4⟩:=pow2_bounds s hs
 rw [<- eS] at p1 p2 p3
 rw [<- eT] at p3 p4
 have hq0:0<=x / S:=Int.ediv_nonneg hx.1 (Int.le_of_lt p1)
 have hq1:x / S < T:=by rw [Int.ediv_lt_iff_lt_mul p1,Int.mul_comm,p3]; exact hx.2
 have hm0:=Int.emod_nonneg y (show S≠0 by omega)
 have hm1:=Int.emod_lt_of_pos y p1
 have ew:IntKind.u64.wrap (y * T)=y % S * T:=by
  rw [IntKind.wrap_u64,<- p3,Int.mul_comm y T,Int.mul_comm S T,Int.mul_emod_mul_of_pos _ _ p4,Int.mul_comm]
 have h0:0<=y % S * T:=Int.mul_nonneg hm0 (Int.le_of_lt p4)
 have h1:(y % S + 1) * T<=S * T:=Int.mul_le_mul_of_nonneg_right (by omega) (Int.le_of_lt p4)
 rw [Int.add_mul,Int.one_mul,p3] at h1
 have hT1:T<=18446744073709551616:=by
  have:1 * T<=S * T:=Int.mul_le_mul_of_nonneg_right (by omega) (Int.le_of_lt p4)
  omega
 rw [ew,Int.mul_comm T]
 refine ⟨?_,by omega,by omega⟩
 rw [u64_or _ _ hq0 (by omega) h0 (by omega),Nat.or_comm,<- u64_or _ _ h0 (by omega) hq0 (by omega)]
 rw [or_add _ _ (64 - s) (y % S) (by rw [eT]) hm0 (by omega) hq0 (by rw [<- eT]; exact hq1) (by omega),Int.add_comm]
theorem lower_any (az:Option Addr) (bz oz nz cz s:Nat) (lz:List Int) (w:World) (hnz:lz.length=nz) (hbig:nz<=2199023255552) (hcz:nz<=cz) (hs:s<=63) (wz:Words lz) (hz:At w az bz oz lz) (hfz:Free w bz oz nz) :
  Calls Tryz.prog 154 #[.slice az nz cz,.int .i64 s] w fun e w'=>e=.returned (.tuple #[])/\∃ lz',lz'.length=nz/\Words lz'/\At w' az bz oz lz'/\Wr bz oz nz w w'/\val lz'=val lz / 2 ^ s:=by
 obtain ⟨p1,p2,p3,p4⟩:=pow2_bounds s hs
 go_enter Tryz.func154,Tryz.ntmps154
 go_wp2
 go_loopw [4,10] (fun tc ti wr=>∃ (k:Nat) (lz1:List Int),k<=nz/\ti=.int .i64 k/\tc=.int .u64 (nth lz (nz - k))/\LowInv lz (2 ^ s) (nz - k) lz1/\At wr az bz oz lz1/\Wr bz oz nz w wr) (fun _ ti _=>nz - (intOf ti).toNat)
 case atStart=>exact ⟨0,lz,Nat.zero_le _,rfl,by rw [nth_ge (by omega)],⟨rfl,wz,fun _ _=>rfl,by rw [Nat.sub_zero,List.drop_of_length_le (by omega)]; simp [val]⟩,hz,Wr.refl _ _ _ _⟩
 case round =>
  obtain ⟨k,lz1,hk,rfl,rfl,hinv,hat,hwr⟩:=hrel
  have hlen1:=hinv.len
  by_cases hlt:k < nz
  ·rcases hz.loc with e | rfl
   ·subst e; simp at hnz; omega
   obtain ⟨h,hh⟩:∃ h:Nat,nz=h + 1 + k:=⟨nz - 1 - k,by omega⟩
   have hcz:=hat.cell h (by omega)
   have hfr:=hwr.free hfz h (by omega)
   rw [hinv.low h (by omega)] at hcz
   have hidx:(nz:Int) - 1 - k=h:=by omega
   have hh0:(h:Int) < nz:=by omega
   have hab:nz - k=h + 1:=by omega
   rw [hab] at hinv ⊢
   obtain ⟨e1,e2,e3⟩:=low_limb (y:=nth lz (h + 1)) s rfl rfl hs (wz.nth h)
   have HS:Hid (LowInv lz (2 ^ s) h (lz1.set h (nth lz h / 2 ^ s + 2 ^ (64 - s) * (nth lz (h + 1) % 2 ^ s)))):=hinv.step p1 p3 (by omega) e2 e3 rfl
   have HN:Hid (nz=h + 1 + k):=hh
   have HA:=(show Hid _ from hat)
   have HW:=(show Hid _ from hwr)
   have HX:Hid (nth lz (nz - (k + 1))=nth lz h):=by show _=_; rw [show nz - (k + 1)=h from by omega]
   have HY:Hid (nz - (k + 1)=h):=by show _=_; omega
   clear hh hinv hz wz hat hwr hab
   generalize nth lz h=x at *
   generalize nth lz (h + 1)=y at *
   have hb64:(64:Int) - s=((64 - s:Nat):Int):=by omega
   go_wp2_with fail
   go_region
   go_wp2
   refine ⟨⟨k + 1,_,by omega,by go_num,by rw [HX.out],by rw [HY.out]; exact HS.out,?_,?_⟩,by simp [intOf]; omega⟩
   ·exact (HA.out.setCell (by omega) _).drew
   ·exact (HW.out.setCell (by omega) (by have:=HN.out; omega) _).drew
  ·have hkn:k=nz:=by omega
   subst hkn
   have hv:=hinv.val
   rw [Nat.sub_self,List.drop_zero,List.drop_zero] at hv
   have HV:=(show Hid _ from hv)
   clear hv
   go_wp2
   go_end0
   exact ⟨rfl,lz1,by omega,hinv.words,hat,hwr,HV.out⟩
def Near (u v g:Int):Prop:=0<=g/\g < 18446744073709551616/\(g - 1) * v<=u/\u < (g + 1) * v
theorem near_top {u v v1 u0 R P:Int} (hP:0 < P) (hv:v < (v1 + 1) * P) (h1:9223372036854775808<=v1) (hu:u=u0 * 18446744073709551616 * P + R) (hR:0<=R) (h0:v1<=u0) (hlt:u < v * 18446744073709551616):Near u v 18446744073709551615:=by
 refine ⟨by decide,by decide,?_,by rw [show (18446744073709551615 + 1:Int)=18446744073709551616 from rfl,Int.mul_comm]; exact hlt⟩
 have k1:v * 18446744073709551614<=(v1 + 1) * P * 18446744073709551614:=Int.mul_le_mul_of_nonneg_right (by omega) (by decide)
 have k2:v1 * P<=u0 * P:=Int.mul_le_mul_of_nonneg_right h0 (by omega)
 have k3:9223372036854775808 * P<=v1 * P:=Int.mul_le_mul_of_nonneg_right h1 (by omega)
 have e1:(v1 + 1) * P * 18446744073709551614=v1 * P * 18446744073709551614 + P * 18446744073709551614:=by grind
 have e2:u0 * 18446744073709551616 * P=u0 * P * 18446744073709551616:=by grind
 rw [show (18446744073709551615 - 1:Int)=18446744073709551614 from rfl,Int.mul_comm]
 omega
theorem near_digit {u v v1 v2 u01 g rest hi Q:Int} (hQ:0 < Q) (hv0:v1 * 18446744073709551616 * Q + v2 * Q<=v) (hv:v < v1 * 18446744073709551616 * Q + (v2 + 1) * Q) (h1:9223372036854775808<=v1) (h2:0<=v2) (h2':v2 < 18446744073709551616)
  (hu0:u01 * (18446744073709551616 * Q)<=u) (hu:u < (u01 + 1) * (18446744073709551616 * Q)) (hg0:0<=g) (hg1:g < 18446744073709551616) (hr0:0<=rest) (hr1:rest < v1) (he:g * v1 + rest=u01)
  (lo:Int) (hl0:0<=lo) (hl1:lo < 18446744073709551616) (hm:hi * 18446744073709551616 + lo=g * v2) :
  (rest < hi->Near u v (g - 1))/\(hi<=rest->Near u v g):=by
 have hgv2:0<=g * v2:=Int.mul_nonneg hg0 h2
 have hgv2':g * v2<=g * 18446744073709551615:=Int.mul_le_mul_of_nonneg_left (by omega) hg0
 have hhi0:0<=hi:=by omega
 have hhi1:hi<=18446744073709551615:=by omega
 obtain ⟨X,hX⟩:∃ X,18446744073709551616 * Q=X:=⟨_,rfl⟩
 have hXp:0 < X:=by omega
 have m1:g * (v1 * 18446744073709551616 * Q + v2 * Q)<=g * v:=Int.mul_le_mul_of_nonneg_left hv0 hg0
 have m2:g * v<=g * (v1 * 18446744073709551616 * Q + (v2 + 1) * Q):=Int.mul_le_mul_of_nonneg_left (by omega) hg0
 have e1:g * (v1 * 18446744073709551616 * Q + v2 * Q)=u01 * X - rest * X + hi * X + lo * Q:=by
  rw [<- hX,<- he]
  have:g * (v2 * Q)=(hi * 18446744073709551616 + lo) * Q:=by rw [hm]; grind
  grind
 have e2:g * (v1 * 18446744073709551616 * Q + (v2 + 1) * Q)=u01 * X - rest * X + hi * X + lo * Q + g * Q:=by
  have:g * (v1 * 18446744073709551616 * Q + (v2 + 1) * Q)=g * (v1 * 18446744073709551616 * Q + v2 * Q) + g * Q:=by grind
  rw [this,e1]
 rw [e1] at m1
 rw [e2] at m2
 have e3:v1 * 18446744073709551616 * Q=v1 * X:=by rw [<- hX]; grind
 rw [e3] at hv0
 rw [hX] at hu0 hu
 rw [Int.add_mul,Int.one_mul] at hu
 have k1:9223372036854775808 * X<=v1 * X:=Int.mul_le_mul_of_nonneg_right h1 (by omega)
 have k2:(rest + 1) * X<=v1 * X:=Int.mul_le_mul_of_nonneg_right (by omega) (by omega)
 have k3:lo * Q<=18446744073709551615 * Q:=Int.mul_le_mul_of_nonneg_right (by omega) (by omega)
 have k3':0<=lo * Q:=Int.mul_nonneg hl0 (by omega)
 have k4:g * Q<=18446744073709551615 * Q:=Int.mul_le_mul_of_nonneg_right (by omega) (by omega)
 have k5:0<=v2 * Q:=Int.mul_nonneg h2 (by omega)
 have k6:0<=hi * X:=Int.mul_nonneg hhi0 (by omega)
 have k7:0<=rest * X:=Int.mul_nonneg hr0 (by omega)
 have k8:hi * X<=18446744073709551615 * X:=Int.mul_le_mul_of_nonneg_right hhi1 (by omega)
 rw [Int.add_mul,Int.one_mul] at k2
 constructor
 ·intro hlt
  have k9:(rest + 1) * X<=hi * X:=Int.mul_le_mul_of_nonneg_right (by omega) (by omega)
  rw [Int.add_mul,Int.one_mul] at k9
  have hg1':1<=g:=by
   by_cases c:1<=g
   ·exact c
   ·have:g=0:=by omega
    subst this; simp at hm; omega
  have hhi2:hi<=18446744073709551614:=by omega
  have k10:hi * X<=18446744073709551614 * X:=Int.mul_le_mul_of_nonneg_right hhi2 (by omega)
  refine ⟨by omega,by omega,?_,?_⟩
  ·rw [show (g - 1 - 1) * v=g * v - 2 * v from by grind]
   omega
  ·rw [show (g - 1 + 1) * v=g * v from by grind]
   omega
 ·intro hle
  have k9:hi * X<=rest * X:=Int.mul_le_mul_of_nonneg_right hle (by omega)
  refine ⟨hg0,hg1,?_,?_⟩
  ·rw [Int.sub_mul,Int.one_mul]; omega
  ·rw [Int.add_mul,Int.one_mul]; omega
end
section
open Go.RowKit Lim
theorem div64_exact (hi lo y:Int) (w:World) (h0:0<=hi) (h1:hi < y) (l0:0<=lo) (l1:lo < 18446744073709551616) (y1:y < 18446744073709551616) :
  Calls Tryz.prog 151 #[.int .u64 hi,.int .u64 lo,.int .u64 y] w fun e w'=>e=.returned (.tuple #[.int .u64 ((hi * 18446744073709551616 + lo) / y),.int .u64 ((hi * 18446744073709551616 + lo) % y)])/\∃ n,w'=w.drewN n:=by
 by_cases c:hi=0
 ·subst c
  refine (div64_zero lo y w (by omega) l0 l1 y1).mono ?_
  rintro e w' ⟨rfl,hw⟩
  exact ⟨by simp,hw⟩
 ·refine (div64_big hi lo y w (by omega) h1 l0 l1 y1).mono ?_
  rintro e w' ⟨rfl,rfl⟩
  exact ⟨rfl,0,rfl⟩
theorem quiet_of_drew {P:Program} {f:FuncId} {args:Array Value} {w:World} {n:Nat} {v:Value} (h:Calls P f args (w.drewN n) fun e w'=>e=.returned v/\∃ m,w'=(w.drewN n).drewN m):Calls P f args (w.drewN n) fun e w''=>e=.returned v/\∃ m,w''=w.drewN m :=
 h.mono fun _ _ ⟨he,m,hm⟩=>⟨he,n + m,by rw [hm,World.drewN_drewN]⟩
theorem top2 {l:List Int} (wl:Words l) {n:Nat} (hn:l.length=n + 2):(nth l (n + 1) * 18446744073709551616 + nth l n) * 18446744073709551616 ^ n<=val l/\val l < (nth l (n + 1) * 18446744073709551616 + nth l n + 1) * 18446744073709551616 ^ n:=by
 have e1:=val_split l n (by omega)
 have h0:=val_nonneg (wl.take n)
 have h1:=val_lt (wl.take n)
 rw [List.length_take,Nat.min_eq_left (by omega)] at h1
 rw [val_drop (by omega),val_drop (by omega),List.drop_of_length_le (show l.length<=n + 1 + 1 by omega)] at e1
 have e2:(18446744073709551616:Int) ^ n * (nth l n + 18446744073709551616 * (nth l (n + 1) + 18446744073709551616 * val []))=(nth l (n + 1) * 18446744073709551616 + nth l n) * 18446744073709551616 ^ n:=by
  rw [show val []=0 from rfl]; grind
 rw [e2] at e1
 rw [Int.add_mul (nth l (n + 1) * 18446744073709551616 + nth l n) 1]
 omega
theorem guess_any (au:Option Addr) (cu bu ou:Nat) (av:Option Addr) (k cv bv ov:Nat) (lu lv:List Int) (w:World) (hlu:lu.length=k + 3) (hlv:lv.length=k + 2) (hbig:k<=1099511627776)
  (wu:Words lu) (wv:Words lv) (hu:At w au bu ou lu) (hv:At w av bv ov lv) (htop:9223372036854775808<=nth lv (k + 1)) (hlt:val lu < val lv * 18446744073709551616) :
  Calls Tryz.prog 162 #[.slice au (k + 3) cu,.slice av (k + 2) cv] w fun e w'=>∃ g:Int,e=.returned (.int .u64 g)/\Near (val lu) (val lv) g/\Below w.heap.size w w':=by
 obtain ⟨tv1,tv2⟩:=top2 wv hlv
 obtain ⟨tu1,tu2⟩:=top2 (n:=k + 1) wu hlu
 have c0:=hu.cell (k + 2) (by omega)
 have c1:=hu.cell (k + 1) (by omega)
 have d1:=hv.cell (k + 1) (by omega)
 have d2:=hv.cell k (by omega)
 have b0:=wu.nth (k + 2)
 have b1:=wu.nth (k + 1)
 have e1:=wv.nth (k + 1)
 have e2:=wv.nth k
 have hQ:=pow_pos k
 have hP:=pow_pos (k + 1)
 rcases hu.loc with e | rfl
 ·subst e; simp at hlu
 rcases hv.loc with e | rfl
 ·subst e; simp at hlv
 rw [show k + 1 + 1=k + 2 from rfl] at tu1 tu2
 have HLT:=(show Hid _ from hlt)
 clear hu hv wu wv hlt hlu hlv
 obtain ⟨N,hN⟩:∃ N,k + 2=N:=⟨_,rfl⟩
 obtain ⟨m,hm⟩:∃ m,k + 1=m:=⟨_,rfl⟩
 have hN1:(N:Int) - 1=m:=by omega
 have hN2:(N:Int) - 2=k:=by omega
 have hmN:(m:Int) < N:=by omega
 have hkN:(k:Int) < N:=by omega
 have hmN1:(m:Int) < (N:Int) + 1:=by omega
 have hNN1:(N:Int) < (N:Int) + 1:=by omega
 have hNb:N<=1099511627778:=by omega
 have hmle:m<=N:=by omega
 have hmlt:m < N + 1:=by omega
 have hmi:(m:Int)<=N:=by omega
 have hwm:IntKind.i64.wrap (m:Int)=m:=by rw [IntKind.wrap_i64]; omega
 have hwk:IntKind.i64.wrap (k:Int)=k:=by rw [IntKind.wrap_i64]; omega
 generalize nth lu (k + 2)=u0 at *
 generalize nth lu (k + 1)=u1 at *
 generalize nth lv (k + 1)=v1 at *
 generalize nth lv k=v2 at *
 generalize val lu=U at *
 generalize val lv=V at *
 by_cases hge:v1<=u0
 ·have HN:Hid (Near U V 18446744073709551615):=by
   refine near_top (v1:=v1) (u0:=u0) (P:=18446744073709551616 ^ (k + 1)) (R:=U - u0 * 18446744073709551616 * 18446744073709551616 ^ (k + 1)) hP ?_ htop (by omega) ?_ hge HLT.out
   ·rw [Int.pow_succ]
    have:(v1 * 18446744073709551616 + v2 + 1) * 18446744073709551616 ^ k<=(v1 * 18446744073709551616 + 18446744073709551616) * 18446744073709551616 ^ k:=Int.mul_le_mul_of_nonneg_right (by omega) (by omega)
    have e:(v1 * 18446744073709551616 + 18446744073709551616) * 18446744073709551616 ^ k=(v1 + 1) * (18446744073709551616 ^ k * 18446744073709551616):=by grind
    omega
   ·have:0<=u1 * 18446744073709551616 ^ (k + 1):=Int.mul_nonneg b1.1 (by omega)
    rw [Int.add_mul] at tu1
    omega
  rw [show k + 3=N + 1 from by omega,hN] at *
  rw [hm] at c1 d1
  clear tu1 tu2 tv1 tv2 hQ hP hN hm
  go_enter Tryz.func162,Tryz.ntmps162
  go_wp2_with fail
  go_quiet (fail)
  go_wp2
  go_ret
  exact ⟨_,rfl,HN.out,below_drewN (Below.refl _ _) _⟩
 ·have hND:∀ g rest hi lo:Int,0<=g->g < 18446744073709551616->0<=rest->rest < v1->g * v1 + rest=u0 * 18446744073709551616 + u1->0<=lo->lo < 18446744073709551616->hi * 18446744073709551616 + lo=g * v2->(rest < hi->Near U V (g - 1))/\(hi<=rest->Near U V g):=by
   intro g rest hi lo h1 h2 h3 h4 h5 h6 h7 h8
   refine near_digit (Q:=18446744073709551616 ^ k) hQ ?_ ?_ htop e2.1 e2.2 ?_ ?_ h1 h2 h3 h4 h5 lo h6 h7 h8
   ·rw [Int.add_mul] at tv1; exact tv1
   ·have e:(v1 * 18446744073709551616 + v2 + 1) * 18446744073709551616 ^ k=v1 * 18446744073709551616 * 18446744073709551616 ^ k + (v2 + 1) * 18446744073709551616 ^ k:=by grind
    rw [<- e]; exact tv2
   ·rw [Int.mul_comm 18446744073709551616,<- Int.pow_succ]; exact tu1
   ·rw [Int.mul_comm 18446744073709551616,<- Int.pow_succ]; exact tu2
  have HND:=(show Hid _ from hND)
  have hqr:=Int.mul_ediv_add_emod (u0 * 18446744073709551616 + u1) v1
  have hr0:=Int.emod_nonneg (u0 * 18446744073709551616 + u1) (show v1≠0 by omega)
  have hr1:=Int.emod_lt_of_pos (u0 * 18446744073709551616 + u1) (show 0 < v1 by omega)
  have hg0:0<=(u0 * 18446744073709551616 + u1) / v1:=Int.ediv_nonneg (by omega) (by omega)
  have hg1:(u0 * 18446744073709551616 + u1) / v1 < 18446744073709551616:=by
   rw [Int.ediv_lt_iff_lt_mul (by omega)]
   have:(u0 + 1) * 18446744073709551616<=v1 * 18446744073709551616:=Int.mul_le_mul_of_nonneg_right (by omega) (by decide)
   omega
  have tD:=fun wx:World=>div64_exact u0 u1 v1 wx b0.1 (by omega) b1.1 b1.2 e1.2
  generalize hg:(u0 * 18446744073709551616 + u1) / v1=g at *
  generalize hr:(u0 * 18446744073709551616 + u1) % v1=rest at *
  rw [Int.mul_comm] at hqr
  have HQR:=(show Hid _ from hqr)
  rw [show k + 3=N + 1 from by omega,hN] at *
  rw [hm] at c1 d1
  clear hND hqr hg hr tu1 tu2 tv1 tv2 hQ hP hN hm
  have hge':u0 < v1:=by omega
  go_enter Tryz.func162,Tryz.ntmps162
  go_wp2_with fail
  go_quiet (fail)
  have c0':(w.drewN nq).cell? ⟨bu,ou + N,none⟩=some (.int .u64 u0):=c0
  have c1':(w.drewN nq).cell? ⟨bu,ou + m,none⟩=some (.int .u64 u1):=c1
  have d1':(w.drewN nq).cell? ⟨bv,ov + m,none⟩=some (.int .u64 v1):=d1
  have d2':(w.drewN nq).cell? ⟨bv,ov + k,none⟩=some (.int .u64 v2):=d2
  have hbW:=below_drewN (Below.refl w.heap.size w) nq
  clear c0 c1 d1 d2
  generalize w.drewN nq=W1 at *
  go_wp2_with fail
  go_quiet ((go_at_call 151; exact quiet_of_drew (tD _)))
  have d2'':(W1.drewN nq).cell? ⟨bv,ov + k,none⟩=some (.int .u64 v2):=d2'
  have hbW2:=below_drewN hbW nq
  clear c0' c1' d1' d2' hbW tD
  generalize W1.drewN nq=W2 at *
  go_wp2_with fail
  refine (mul64_n g v2 hg0 hg1 e2.1 e2.2 _).mono ?_
  rintro e w3 ⟨hi,lo,rfl,i1,i2,i3,i4,i5,rfl⟩
  have hfin:=HND.out g rest hi lo hg0 hg1 hr0 hr1 HQR.out i3 i4 i5.out
  by_cases hc:rest < hi
  ·have HF:=(show Hid _ from hfin.1 hc)
   have hg2:0<=g - 1:=(hfin.1 hc).1
   clear hfin HND
   go_wp2
   go_ret
   exact ⟨_,rfl,HF.out,hbW2⟩
  ·have HF:=(show Hid _ from hfin.2 (by omega))
   clear hfin HND
   go_wp2
   go_ret
   exact ⟨_,rfl,HF.out,hbW2⟩
end
section
open Go.RowKit Lim
theorem mul_room {L L' lz:List Int} {k:Nat} (hL:Words L) (hL':Words L') (hz:Words lz) (hk:k < L.length) (hl:lz.length=L.length + L'.length) (hv:val lz=val (L.take k) * val L') :
  0<=val ((lz.drop k).take (L'.length + 1)) + val L' * nth L k/\val ((lz.drop k).take (L'.length + 1)) + val L' * nth L k < 18446744073709551616 ^ (L'.length + 1):=by
 have h1:=val_lt (hL.take k)
 have h2:=val_lt hL'
 have h3:=val_nonneg (hL.take k)
 have h4:=val_nonneg hL'
 have h5:=val_nonneg (hz.take k)
 have h6:=val_nonneg ((hz.drop k).take (L'.length + 1))
 have h7:=val_nonneg ((hz.drop k).drop (L'.length + 1))
 have h8:=hL.nth k
 rw [List.length_take,Nat.min_eq_left (by omega)] at h1
 have e1:=val_split lz k (by omega)
 have e2:=val_split (lz.drop k) (L'.length + 1) (by simp; omega)
 have hp:=pow_pos k
 have hq:=pow_pos L'.length
 have hr:=pow_pos (L'.length + 1)
 have m1:val (L.take k) * val L'<=18446744073709551616 ^ k * val L':=Int.mul_le_mul_of_nonneg_right (by omega) h4
 have m2:(18446744073709551616:Int) ^ k * val (lz.drop k)<=18446744073709551616 ^ k * val L':=by omega
 have m3:val (lz.drop k)<=val L':=Int.le_of_mul_le_mul_left m2 hp
 have m4:0<=18446744073709551616 ^ (L'.length + 1) * val ((lz.drop k).drop (L'.length + 1)):=Int.mul_nonneg (Int.le_of_lt hr) h7
 have m5:val L' * nth L k<=val L' * 18446744073709551615:=Int.mul_le_mul_of_nonneg_left (by omega) h4
 have m6:0<=val L' * nth L k:=Int.mul_nonneg h4 h8.1
 refine ⟨by omega,?_⟩
 rw [Int.pow_succ]
 omega
structure MulInv (L L' lz:List Int) (k:Nat):Prop where
 len:lz.length=L.length + L'.length
 words:Words lz
 val:Lim.val lz=Lim.val (L.take k) * Lim.val L'
theorem MulInv.step {L L' lz lw:List Int} {k:Nat} (hL:Words L) (hL':Words L') (hk:k < L.length) (h:MulInv L L' lz k) (hw:Words lw) (hlw:lw.length=L'.length + 1)
  (hv:Lim.val lw=(Lim.val ((lz.drop k).take (L'.length + 1)) + Lim.val L' * nth L k) % 18446744073709551616 ^ (L'.length + 1)):MulInv L L' (patch lz k lw) (k + 1):=by
 have hroom:=mul_room hL hL' h.words hk h.len h.val
 rw [Int.emod_eq_of_lt hroom.1 hroom.2] at hv
 have hl:=h.len
 refine ⟨by rw [patch_length (by omega)]; exact h.len,patch_words h.words hw,?_⟩
 rw [patch_val (by omega),hlw,hv,h.val,val_take_succ hk]
 grind
theorem mul_any (ao:Option Addr) (n c b o:Nat) (ao':Option Addr) (n' c' b' o':Nat) (l l':List Int) (w:World) (hl:l.length=n) (hl':l'.length=n') (hc:n<=c) (hc':n'<=c') (hbig:n<=1099511627776) (hbig':n'<=1099511627776)
  (wl:Words l) (wl':Words l') (ha:At w ao b o l) (ha':At w ao' b' o' l') :
  Calls Tryz.prog 83 #[.slice ao n c,.slice ao' n' c'] w fun e w'=>∃ v r,e=.returned v/\NewV w w' v r/\IsN r (val l * val l')/\r.length<=n + n'/\Below w.heap.size w w':=by
 have hn:=nlen_le l
 have hn':=nlen_le l'
 have t1:=trim_any ao n c l w hl hc (by omega) ha.cells
 have t2:=trim_any ao' n' c' l' w hl' hc' (by omega) ha'.cells
 have hs:=ha.sub (nlen l)
 have hs':=ha'.sub (nlen l')
 have hnl:=norm_length l
 have hnl':=norm_length l'
 have hI:=isN_norm wl
 have hI':=isN_norm wl'
 rw [show l.take (nlen l)=norm l from rfl] at hs
 rw [show l'.take (nlen l')=norm l' from rfl] at hs'
 generalize nlen l=N at *
 generalize nlen l'=N' at *
 generalize norm l=L at *
 generalize norm l'=L' at *
 have hneL:L=[]\/b≠w.heap.size:=by
  rcases hs.lt with e | e
  ·exact .inl e
  ·exact .inr (by omega)
 have hne:L'=[]\/b'≠w.heap.size:=by
  rcases hs'.lt with e | e
  ·exact .inl e
  ·exact .inr (by omega)
 clear ha ha'
 go_enter Tryz.func83,Tryz.ntmps83
 go_wp2_with fail
 refine t1.mono ?_
 rintro e w1 ⟨rfl,rfl⟩
 go_wp2_with fail
 refine t2.mono ?_
 rintro e w2 ⟨rfl,rfl⟩
 clear t1 t2
 go_wp2_with (at_make; refine wpList_makeN rfl _ _ rfl (N + N') _ _ rfl rfl (by omega) (by omega) (by omega) ?_; intro w3 hrow hbel hsz)
 have hs3:=hs.keep hbel
 have hs4:=hs'.keep hbel
 have hat0:=hrow.at
 have hfr0:=hrow.free 0 (N + N')
 clear hs hs' hrow
 go_loopw [22] (fun ti wr=>∃ (k:Nat) (lz:List Int),k<=N/\ti=.int .i64 k/\MulInv L L' lz k/\At wr (some ⟨w2.heap.size,0,none⟩) w2.heap.size 0 lz/\Wr w2.heap.size 0 (N + N') w3 wr) (fun ti _=>N - (intOf ti).toNat)
 case atStart=>exact ⟨0,_,Nat.zero_le _,rfl,⟨by simp [hnl,hnl'],words_zero _,by simp [val,val_zeros (l:=List.replicate (N + N') 0) fun i=>by simp [nth,List.getElem?_replicate]; split<;>rfl]⟩,hat0,Wr.refl _ _ _ _⟩
 case round =>
  clear hat0
  obtain ⟨k,lz,hk,rfl,hinv,hat,hwr⟩:=hrel
  by_cases hlt:k < N
  ·have hlen:=hinv.len
   rcases hs3.loc with e | rfl
   ·subst e; simp at hnl; omega
   have hneL:=hneL
   have hcx:=(hs3.wr hwr hneL).cell k (by omega)
   have hat':=hs4.wr hwr hne
   have hx:=hI.1.nth k
   have hfr:=(hwr.free hfr0).window (k:=k) (m:=N' + 1) (by omega)
   have hwin:=(hat.drew).window k (N' + 1)
   rw [Nat.zero_add] at hwin hfr
   have hkn:k + N' + 1 - k=N' + 1:=by omega
   have hcall:=addTimes_any (some ⟨w2.heap.size,k,none⟩) w2.heap.size k (N' + 1) (N' + 1) ao' b' o' N' N' (nth L k) ((lz.drop k).take (N' + 1)) L' wr.drew (by simp; omega) hnl' (by omega) (by omega) (Nat.le_refl _) (Nat.le_refl _) hx.1 hx.2 ((hinv.words.drop k).take _) hI'.1 hwin hfr.drew hat'.drew hne
   have HX:Hid (∀ lw,Words lw->lw.length=N' + 1->val lw=(val ((lz.drop k).take (N' + 1)) + val L' * nth L k) % 18446744073709551616 ^ (N' + 1)->MulInv L L' (patch lz k lw) (k + 1)):=by
    intro lw h1 h2 h3
    rw [<- hnl'] at h2 h3
    exact MulInv.step hI.1 hI'.1 (by omega) hinv h1 h2 h3
   have HA:Hid (At wr.drew (some ⟨w2.heap.size,0,none⟩) w2.heap.size 0 lz):=hat.drew
   have HW:Hid (Wr w2.heap.size 0 (N + N') w3 wr.drew):=hwr.drew
   clear hfr hwin hat' hinv hwr hat
   generalize nth L k=x at *
   go_wp2_with fail
   go_region_with (go_at_call 111; refine hcall.mono ?_; rintro e w5 ⟨rfl,lw,hlw,hww,hatw,hwrw,hvw⟩)
   all_goals go_wp2
   all_goals exact ⟨⟨k + 1,patch lz k lw,by omega,by go_num,HX.out lw hww hlw hvw,HA.out.patch (k:=k) (n:=N' + 1) (by rw [Nat.zero_add]; exact hwrw) (by rw [Nat.zero_add]; exact hatw) (by omega) (by omega),HW.out.trans (hwrw.mono (by omega) (by omega))⟩,by simp [intOf]; omega⟩
  ·have hkN:k=N:=by omega
   subst hkN
   have hv:=hinv.val
   have hlen:=hinv.len
   have hwz:=hinv.words
   rw [List.take_of_length_le (by omega),hI.2.2,hI'.2.2] at hv
   have hfz:=hwr.free hfr0
   have hz1:=nlen_le lz
   have hz2:=norm_length lz
   have hz3:=hat.sub (nlen lz)
   have HF:IsN (norm lz) (val l * val l'):=by rw [<- hv]; exact isN_norm hwz
   have HB:=hbel.trans (hwr.below (Nat.le_refl _))
   rw [show lz.take (nlen lz)=norm lz from rfl] at hz3
   have t3:=trim_any (some ⟨w2.heap.size,0,none⟩) (k + N') (k + N') lz wr (by omega) (Nat.le_refl _) (by omega) hat.cells
   clear hs3 hs4 hat hwr hbel hinv hv
   generalize nlen lz=K at *
   generalize norm lz=R at *
   go_wp2_with fail
   refine t3.mono ?_
   rintro e w6 ⟨rfl,rfl⟩
   go_wp2
   go_ret
   exact ⟨_,R,rfl,NewV.of hz2.symm (Nat.le_refl _) (Nat.le_refl _) hz3 (fun i hi=>hfz i (by omega)),HF,by omega,HB⟩
end
section
open Go.RowKit Lim
structure DLInv (lu:List Int) (V:Int) (q0 k m:Nat) (lq lu1:List Int):Prop where
 lenq:lq.length=q0
 lenu:lu1.length=q0 + (k + 2)
 wq:Words lq
 wu:Words lu1
 eq:val lu=18446744073709551616 ^ m * val (lq.drop m) * V + val lu1
 lt:val lu1 < V * 18446744073709551616 ^ m
theorem DLInv.window {lu:List Int} {V:Int} {q0 k a:Nat} {lq lu1:List Int} (h:DLInv lu V q0 k (a + 1) lq lu1) (ha:a < q0) (hV:V < 18446744073709551616 ^ (k + 2)) :
  val lu1=val (lu1.take a) + 18446744073709551616 ^ a * val ((lu1.drop a).take (k + 3))/\val ((lu1.drop a).take (k + 3)) < V * 18446744073709551616:=by
 have hl:=h.lenu
 have e1:=val_split lu1 a (by omega)
 have e2:=val_split (lu1.drop a) (k + 3) (by simp; omega)
 have h0:=val_nonneg (h.wu.take a)
 have h1:=val_nonneg ((h.wu.drop a).take (k + 3))
 have h2:=val_nonneg ((h.wu.drop a).drop (k + 3))
 have hlt:=h.lt
 have hp:=pow_pos a
 have hz:val ((lu1.drop a).drop (k + 3))=0:=by
  by_cases c:val ((lu1.drop a).drop (k + 3))=0
  ·exact c
  ·have k1:18446744073709551616 ^ (k + 3) * 1<=18446744073709551616 ^ (k + 3) * val ((lu1.drop a).drop (k + 3)):=Int.mul_le_mul_of_nonneg_left (by omega) (Int.le_of_lt (pow_pos _))
   have k2:18446744073709551616 ^ a * 18446744073709551616 ^ (k + 3)<=18446744073709551616 ^ a * val (lu1.drop a):=Int.mul_le_mul_of_nonneg_left (by omega) (Int.le_of_lt hp)
   have k3:(V + 1) * 18446744073709551616 ^ (a + 1)<=18446744073709551616 ^ (k + 2) * 18446744073709551616 ^ (a + 1):=Int.mul_le_mul_of_nonneg_right (by omega) (Int.le_of_lt (pow_pos _))
   rw [Int.add_mul] at k3
   have k4:(18446744073709551616:Int) ^ (k + 2) * 18446744073709551616 ^ (a + 1)=18446744073709551616 ^ a * 18446744073709551616 ^ (k + 3):=by rw [<- Int.pow_add,<- Int.pow_add]; congr 1; omega
   have k5:=pow_pos (a + 1)
   omega
 rw [hz,Int.mul_zero,Int.add_zero] at e2
 rw [e2] at e1
 refine ⟨e1,?_⟩
 have k6:18446744073709551616 ^ a * val ((lu1.drop a).take (k + 3)) < 18446744073709551616 ^ a * (V * 18446744073709551616):=by
  have:18446744073709551616 ^ a * (V * 18446744073709551616)=V * 18446744073709551616 ^ (a + 1):=by rw [Int.pow_succ]; grind
  omega
 exact Int.lt_of_mul_lt_mul_left k6 (Int.le_of_lt hp)
theorem DLInv.step {lu:List Int} {V d:Int} {q0 k a:Nat} {lq lu1 nw:List Int} (h:DLInv lu V q0 k (a + 1) lq lu1) (ha:a < q0) (hV:V < 18446744073709551616 ^ (k + 2)) (d0:0<=d) (d1:d < 18446744073709551616) (wn:Words nw) (hn:nw.length=k + 3)
  (e:val nw=val ((lu1.drop a).take (k + 3)) - d * V) (e1:val nw < V):DLInv lu V q0 k a (lq.set a d) (patch lu1 a nw):=by
 have hw:=h.window ha hV
 have hl:=h.lenu
 have hlq:=h.lenq
 have hpv:=patch_val (l:=lu1) (m:=nw) (k:=a) (by omega)
 have ht:=val_lt (h.wu.take a)
 rw [List.length_take,Nat.min_eq_left (by omega)] at ht
 have hp:=pow_pos a
 refine ⟨by simp [hlq],by rw [patch_length (by omega)]; exact hl,h.wq.set a d0 d1,patch_words h.wu wn,?_,?_⟩
 ·rw [h.eq,val_drop (l:=lq.set a d) (by simp; omega),nth_set (by omega),if_pos rfl,List.drop_set,if_pos (by omega),hpv,hn,e,Int.pow_succ]
  grind
 ·have k1:18446744073709551616 ^ a * (val nw + 1)<=18446744073709551616 ^ a * V:=Int.mul_le_mul_of_nonneg_left (by omega) (Int.le_of_lt hp)
  rw [hpv,hn,Int.mul_sub,Int.mul_comm V]
  rw [Int.mul_add] at k1
  omega
theorem near_ok {U V g o Z:Int} {n:Nat} {x:Int} (hn:Near U V g) (hVB:V < 18446744073709551616 ^ n) (hx:x=U - V * g + 18446744073709551616 ^ n * o) (x1:x < 18446744073709551616 ^ n) (hU:0<=U) (ho:0<=o) :
  (o=0->x=U - g * V/\x < V)/\(o≠0->Z=(x + V * 1) % 18446744073709551616 ^ n->1<=g/\Z=U - (g - 1) * V/\Z < V):=by
 obtain ⟨g0,g1,n1,n2⟩:=hn
 rw [Int.sub_mul] at n1
 rw [Int.add_mul] at n2
 rw [Int.mul_comm V g] at hx
 have hp:=pow_pos n
 constructor
 ·intro h; subst h; omega
 ·intro h hz
  have k1:18446744073709551616 ^ n * 1<=18446744073709551616 ^ n * o:=Int.mul_le_mul_of_nonneg_left (by omega) (Int.le_of_lt hp)
  have ho1:o=1:=by
   by_cases c:2<=o
   ·have k2:18446744073709551616 ^ n * 2<=18446744073709551616 ^ n * o:=Int.mul_le_mul_of_nonneg_left c (Int.le_of_lt hp)
    omega
   ·omega
  subst ho1
  have hneg:U - g * V < 0:=by omega
  have hg:1<=g:=by
   by_cases c:1<=g
   ·exact c
   ·have:g=0:=by omega
    subst this; omega
  have e:x + V * 1=(U - (g - 1) * V) + 18446744073709551616 ^ n * 1:=by rw [hx,Int.sub_mul]; omega
  rw [e,Int.add_mul_emod_self_left,Int.sub_mul,Int.emod_eq_of_lt (by omega) (by omega)] at hz
  rw [Int.sub_mul]
  exact ⟨hg,by omega,by omega⟩
theorem scope_jumps_twice {P:Program} {a:Act} {w:World} {Q:Exit->Act->World->Prop} {c rest:Code} (l:Nat) (J:Act->World->Prop) (μ:Act->World->Nat) (hf:findLabel c l=some (Code.skip.seq rest))
  (first:(∀ a w,J a w->rest.wp P (Exit.jump l J Q) a w)->c.wp P (Exit.jump l J Q) a w)
  (pass:∀ a w,J a w->rest.wp P (Exit.jump l (fun a' w'=>J a' w'/\μ a' w' < μ a w) Q) a w):(Code.scope c).wp P Q a w :=
 wp_scope_jumps l J μ hf (first fun a w hJ=>wp_mono (pass a w hJ) fun e a' w' h=>by
  cases e with
  | goto l'=>exact ⟨h.1,h.2.1⟩
  | _=>exact h) fun a w hJ=>wp_seq (wp_skip (pass a w hJ))
theorem patch_patch {l m m':List Int} {k:Nat} (h:k + m.length<=l.length) (hm:m'.length=m.length):patch (patch l k m) k m'=patch l k m':=by
 have e:(l.take k).length=k:=by simp; omega
 unfold patch
 rw [List.take_left' e,hm,<- List.append_assoc (l.take k) m,List.drop_left' (by simp; omega)]
theorem Free.below {B:Nat} {w w':World} (h:Below B w w') {b o n:Nat} (k:Free w b o n) (hb:b < B):Free w' b o n:=fun i hi=>by
 rw [World.frozen?_of_block (w:=w) (h.block b hb)]; exact k i hi
theorem divideLong_any (bu ou cu:Nat) (av:Option Addr) (k q0 cv bv ov:Nat) (lu lv:List Int) (w:World) (hlu:lu.length=q0 + (k + 2)) (hlv:lv.length=k + 2) (hbig:k<=1099511627776) (hbigq:q0<=1099511627776) (hcu:q0 + (k + 2)<=cu) (hcv:k + 2<=cv)
  (wu:Words lu) (wv:Words lv) (hu:At w (some ⟨bu,ou,none⟩) bu ou lu) (hfu:Free w bu ou (q0 + (k + 2))) (hv:At w av bv ov lv) (hne:bv≠bu) (htop:9223372036854775808<=nth lv (k + 1)) (hval:val lu < val lv * 18446744073709551616 ^ q0) :
  Calls Tryz.prog 153 #[.slice (some ⟨bu,ou,none⟩) (q0 + (k + 2)) cu,.slice av (k + 2) cv] w fun e w'=>∃ lq lr:List Int,e=.returned (.slice (some ⟨w.heap.size,0,none⟩) q0 q0)/\DLInv lu (val lv) q0 k 0 lq lr/\At w' (some ⟨w.heap.size,0,none⟩) w.heap.size 0 lq/\Free w' w.heap.size 0 q0/\At w' (some ⟨bu,ou,none⟩) bu ou lr/\Free w' bu ou (q0 + (k + 2))/\Below bu w w':=by
 go_enter Tryz.func153,Tryz.ntmps153
 go_wp2
 refine scope_jumps_twice 0 (fun a' w'=>∃ (m:Nat) (lq lu1:List Int) (u8 u9 u10 u11 u12 u13 u14 u15 u16 u17 u18 u19 u20 u21 u22 u23 u24 u25 u26 u27 u28 u29 u30 u31 u32 u33 u34 u35 u36 u37 u38 u39 u40 u41 u42 u43 u44 u45 u46 u47 u48 u49 u50 u51 u52 u53 u54:Value),a'={ tmps:=#[.slice (some ⟨bu,ou,none⟩) (q0 + (k + 2)) cu,.slice av (k + 2) cv,undef,undef,.slice none 0 0,.int .i64 ((k:Int) + 2),.int .i64 (m:Int),.slice (some ⟨w.heap.size,0,none⟩) q0 q0,u8,u9,u10,u11,u12,u13,u14,u15,u16,u17,u18,u19,u20,u21,u22,u23,u24,u25,u26,u27,u28,u29,u30,u31,u32,u33,u34,u35,u36,u37,u38,u39,u40,u41,u42,u43,u44,u45,u46,u47,u48,u49,u50,u51,u52,u53,u54],defers:=[] }/\m<=q0/\DLInv lu (val lv) q0 k m lq lu1/\At w' (some ⟨w.heap.size,0,none⟩) w.heap.size 0 lq/\Free w' w.heap.size 0 q0/\At w' (some ⟨bu,ou,none⟩) bu ou lu1/\Free w' bu ou (q0 + (k + 2))/\At w' av bv ov lv/\w.heap.size < w'.heap.size/\Below bu w w') (fun a' _=>(intOf (a'.tmps.getD 6 undef)).toNat) rfl ?_ ?_
 ·intro hpass
  go_wp2_with (at_make; refine wpList_makeN rfl _ _ rfl q0 _ _ rfl rfl (by omega) (by omega) (by omega) ?_; intro w1 hrow hbel hsz)
  go_step3
  have hbu:bu < w.heap.size:=by
   rcases hu.lt with e | e
   ·subst e; simp at hlu
   ·exact e
  have hI:DLInv lu (val lv) q0 k q0 (List.replicate q0 0) lu:=⟨by simp,hlu,words_zero _,wu,by simp [val],hval⟩
  rename_i K hK
  refine hK _ _ (hpass _ _ ⟨q0,List.replicate q0 0,lu,_,_,_,_,_,_,_,_,_,_,_,_,_,_,_,_,_,_,_,_,_,_,_,_,_,_,_,_,_,_,_,_,_,_,_,_,_,_,_,_,_,_,_,_,_,_,_,rfl,Nat.le_refl _,hI,hrow.at,hrow.free 0 q0,hu.keep hbel,Free.below hbel hfu hbu,hv.keep hbel,by omega,hbel.mono (Nat.le_of_lt hbu)⟩)
 ·rintro a' wr ⟨m,lq,lu1,u8,u9,u10,u11,u12,u13,u14,u15,u16,u17,u18,u19,u20,u21,u22,u23,u24,u25,u26,u27,u28,u29,u30,u31,u32,u33,u34,u35,u36,u37,u38,u39,u40,u41,u42,u43,u44,u45,u46,u47,u48,u49,u50,u51,u52,u53,u54,rfl,hm,hinv,hq,hfq,hu1,hfu1,hv1,hszr,hbl⟩
  by_cases hm0:m=0
  ·subst hm0
   go_wp2
   rw [show ∀ J Q b w,Exit.jump 0 J Q .ret b w=Q .ret b w from fun _ _ _ _=>rfl]
   go_ret
   exact ⟨lq,lu1,rfl,hinv,hq,hfq,hu1,hfu1,hbl⟩
  ·obtain ⟨a,rfl⟩:∃ a,m=a + 1:=⟨m - 1,by omega⟩
   have hlq:=hinv.lenq
   have hl1:=hinv.lenu
   have hk1:a + (k + 2) + 1 - a=k + 3:=by omega
   have hVB:=val_lt wv
   rw [hlv] at hVB
   obtain ⟨hW1,hW2⟩:=hinv.window (by omega) hVB
   have hwin:=hu1.window a (k + 3)
   have hfwin:=hfu1.window (k:=a) (m:=k + 3) (by omega)
   have hwl:((lu1.drop a).take (k + 3)).length=k + 3:=by simp; omega
   have hww:Words ((lu1.drop a).take (k + 3)):=(hinv.wu.drop a).take (k + 3)
   have hcall:=fun wx hx hy=>guess_any (some ⟨bu,ou + a,none⟩) (k + 3) bu (ou + a) av k cv bv ov ((lu1.drop a).take (k + 3)) lv wx hwl hlv (by omega) hww wv hx hy htop hW2
   have hstep:=fun d nw=>hinv.step (d:=d) (nw:=nw) (by omega) hVB
   have HH:=(show Hid _ from And.intro hW1 (And.intro hwl (And.intro hww (And.intro hlq (And.intro hl1 hstep)))))
   clear hinv hW1 hwl hww hlq hl1 hstep
   have e1:((a:Nat):Int) + 1 - 1=a:=by omega
   generalize hL:(lu1.drop a).take (k + 3)=L at *
   go_wp2_with fail
   rw [hk1]
   refine (hcall _ hwin hv1).mono ?_
   rintro e w2 ⟨g,rfl,hnear,hbel⟩
   obtain ⟨hW1,hwl,hww,hlq,hl1,hstep⟩:=HH.out
   have hsz2:w.heap.size < w2.heap.size:=Nat.lt_of_lt_of_le hszr hbel.size
   have hbu:bu < wr.heap.size:=by
    rcases hu1.lt with e | e
    ·subst e; simp at hl1
    ·exact e
   have HB2:=(show Hid _ from hbl.trans (hbel.mono (Nat.le_of_lt hbu)))
   clear hbl
   have hq2:=hq.keep hbel
   have hfq2:=Free.below hbel hfq hszr
   have hu2:=hu1.keep hbel
   have hfu2:=Free.below hbel hfu1 hbu
   have hv2:=hv1.keep hbel
   have hc:=hq2.cell a (by omega)
   have hf:=hfq2 a (by omega)
   rw [Nat.zero_add] at hc hf
   clear hcall hwin
   have hg0:=hnear.1
   have hg1:=hnear.2.1
   clear hW1 hwl hww hlq hl1 hstep hq hfq hu1 hfu1 hv1
   go_wp2_with fail
   have hbq:bu≠w.heap.size:=by
    rcases hu.lt with e | e
    ·subst e; simp at hlu
    ·omega
   have hbq':bu<=w.heap.size:=by
    rcases hu.lt with e | e
    ·subst e; simp at hlu
    ·omega
   have hbv:bv≠w.heap.size:=by
    rcases hv.lt with e | e
    ·subst e; simp at hlv
    ·omega
   obtain ⟨hW1,hwl,hww,hlq,hl1,hstep⟩:=HH.out
   have hwr3:Wr w.heap.size 0 q0 w2 (w2.setCell ⟨w.heap.size,a,none⟩ (.int .u64 g)):=(Wr.refl _ _ _ _).setCell (by omega) (by omega) _
   have hq3:=hq2.setCell (i:=a) (by omega) g
   rw [Nat.zero_add] at hq3
   generalize w2.setCell ⟨w.heap.size,a,none⟩ (.int .u64 g)=w3 at *
   have hfq3:=hwr3.free hfq2
   have hfu3:=hwr3.free hfu2
   have hu3:=hu2.wr hwr3 (.inr hbq)
   have hv3:=hv2.wr hwr3 (.inr hbv)
   have hsz3:w.heap.size < w3.heap.size:=by rw [hwr3.size]; exact hsz2
   have hwin3:=hu3.window a (k + 3)
   rw [hL] at hwin3
   have hfwin3:=hfu3.window (k:=a) (m:=k + 3) (by omega)
   refine (takeTimes_any (some ⟨bu,ou + a,none⟩) bu (ou + a) (k + 3) (k + 3) av bv ov (k + 2) cv g L lv w3 hwl hlv (by omega) (by omega) (Nat.le_refl _) hcv hg0 hg1 hww wv hwin3 hfwin3 hv3 (.inr hne)).mono ?_
   rintro e w4 ⟨owed,rfl,ho0,ho1,nw,hnl,hnw,hat4,hwr4,hval4⟩
   have HB4:=(show Hid _ from (HB2.out.trans (hwr3.below hbq')).trans (hwr4.below (Nat.le_refl _)))
   have hfq4:=hwr4.free hfq3
   have hfu4:=hwr4.free hfu3
   have hq4:=hq3.wr hwr4 (.inr (Ne.symm hbq))
   have hv4:=hv3.wr hwr4 (.inr hne)
   have hu4:=hu3.patch hwr4 hat4 hnl (by omega)
   have hsz4:w.heap.size < w4.heap.size:=by rw [hwr4.size]; exact hsz3
   have hP:=patch_length (l:=lu1) (m:=nw) (k:=a) (by omega)
   have hVB3:val lv < 18446744073709551616 ^ (k + 3):=by
    have:=pow_pos (k + 2)
    rw [Int.pow_succ _ (k + 2)]; omega
   have hnl2:=val_lt hnw
   rw [hnl] at hnl2
   have hNO:=fun Z=>near_ok (Z:=Z) (n:=k + 3) hnear hVB3 hval4 hnl2 (val_nonneg hww) ho0
   clear hwr3 hfq2 hfu2 hu2 hv2 hq2 hfq3 hfu3 hu3 hv3 hwin3 hfwin3 hwr4 hq3
   by_cases ho:owed=0
   ·subst ho
    have hx:=(hNO 0).1 rfl
    have hJ:=hstep g nw hg0 hg1 hnw hnl hx.1 hx.2
    have HJ:=(show Hid _ from hJ)
    clear hJ hx hNO hstep HH hW1 hwl hww hlq hl1 hval4 hnl2 hP
    go_wp2_with fail
    go_step3
    refine And.intro (Eq.refl 0) (And.intro ?_ ?_)
    ·exact ⟨a,lq.set a g,patch lu1 a nw,_,_,_,_,_,_,_,_,_,_,_,_,_,_,_,_,_,_,_,_,_,_,_,_,_,_,_,_,_,_,_,_,_,_,_,_,_,_,_,_,_,_,_,_,_,_,_,rfl,by omega,HJ.out,hq4,hfq4,hu4,hfu4,hv4,hsz4,HB4.out⟩
    ·simp [intOf]
   ·have hg1':1<=g:=((hNO ((val nw + val lv * 1) % 18446744073709551616 ^ (k + 3))).2 ho rfl).1
    have hq4c:=hq4.cell a (by simp; omega)
    have hq4f:=hfq4 a (by omega)
    rw [Nat.zero_add] at hq4c hq4f
    rw [nth_set (by omega),if_pos rfl] at hq4c
    have HN:=(show Hid _ from And.intro hNO (And.intro hstep (And.intro hlq (And.intro hl1 (And.intro hW1 (And.intro hwl (And.intro hww (And.intro hP hnl))))))))
    clear hNO hstep HH hW1 hwl hww hlq hl1 hval4 hnl2 hP
    have hgw:IntKind.u64.wrap (g - 1)=g - 1:=by rw [IntKind.wrap_u64]; omega
    have hob:(owed == 0)=false:=by simpa using ho
    go_wp2_with fail
    obtain ⟨hNO,hstep,hlq,hl1,hW1,hwl,hww,hP,hnl'⟩:=HN.out
    have hwr5:Wr w.heap.size 0 q0 w4 (w4.setCell ⟨w.heap.size,a,none⟩ (.int .u64 (g - 1))):=(Wr.refl _ _ _ _).setCell (by omega) (by omega) _
    have hq5:=hq4.setCell (i:=a) (by simp; omega) (g - 1)
    rw [Nat.zero_add,List.set_set] at hq5
    generalize w4.setCell ⟨w.heap.size,a,none⟩ (.int .u64 (g - 1))=w5 at *
    have hfq5:=hwr5.free hfq4
    have hfu5:=hwr5.free hfu4
    have hu5:=hu4.wr hwr5 (.inr hbq)
    have hv5:=hv4.wr hwr5 (.inr hbv)
    have hat5:=hat4.wr hwr5 (.inr hbq)
    have hsz5:w.heap.size < w5.heap.size:=by rw [hwr5.size]; exact hsz4
    have hfwin5:=hfu5.window (k:=a) (m:=k + 3) (by omega)
    refine (addTimes_any (some ⟨bu,ou + a,none⟩) bu (ou + a) (k + 3) (k + 3) av bv ov (k + 2) cv 1 nw lv w5 hnl hlv (by omega) (by omega) (Nat.le_refl _) hcv (by omega) (by omega) hnw wv hat5 hfwin5 hv5 (.inr hne)).mono ?_
    rintro e w6 ⟨rfl,n2,hnl6,hnw6,hat6,hwr6,hval6⟩
    have HB6:=(show Hid _ from (HB4.out.trans (hwr5.below hbq')).trans (hwr6.below (Nat.le_refl _)))
    have hfq6:=hwr6.free hfq5
    have hfu6:=hwr6.free hfu5
    have hq6:=hq5.wr hwr6 (.inr (Ne.symm hbq))
    have hv6:=hv5.wr hwr6 (.inr hne)
    have hu6:=hu5.patch hwr6 hat6 hnl6 (by omega)
    rw [patch_patch (by omega) (by omega)] at hu6
    have hsz6:w.heap.size < w6.heap.size:=by rw [hwr6.size]; exact hsz5
    have hx:=(hNO (val n2)).2 ho hval6
    have HJ:=(show Hid _ from hstep (g - 1) n2 (by omega) (by omega) hnw6 hnl6 hx.2.1 hx.2.2)
    clear hx hNO hstep HN hW1 hwl hww hlq hl1 hP hwr5 hq5 hfq5 hfu5 hu5 hv5 hat5 hfwin5 hwr6 hq4 hfq4 hu4 hv4 hfu4 hval6 hq4c hq4f
    go_wp2_with fail
    go_step3
    refine And.intro (Eq.refl 0) (And.intro ?_ ?_)
    ·exact ⟨a,lq.set a (g - 1),patch lu1 a n2,_,_,_,_,_,_,_,_,_,_,_,_,_,_,_,_,_,_,_,_,_,_,_,_,_,_,_,_,_,_,_,_,_,_,_,_,_,_,_,_,_,_,_,_,_,_,_,rfl,by omega,HJ.out,hq6,hfq6,hu6,hfu6,hv6,hsz6,HB6.out⟩
    ·simp [intOf]
end
section
open Go.RowKit Lim
theorem top1 {l:List Int} (wl:Words l) {n:Nat} (hn:l.length=n + 1):nth l n * 18446744073709551616 ^ n<=val l/\val l < (nth l n + 1) * 18446744073709551616 ^ n:=by
 have e1:=val_split l n (by omega)
 have h0:=val_nonneg (wl.take n)
 have h1:=val_lt (wl.take n)
 rw [List.length_take,Nat.min_eq_left (by omega)] at h1
 rw [val_drop (by omega),List.drop_of_length_le (show l.length<=n + 1 by omega)] at e1
 have e2:(18446744073709551616:Int) ^ n * (nth l n + 18446744073709551616 * val [])=nth l n * 18446744073709551616 ^ n:=by
  rw [show val []=0 from rfl]; grind
 rw [e2] at e1
 rw [Int.add_mul (nth l n) 1]
 omega
theorem le_of_mul_lt {a b p:Int} (hp:0 < p) (h:a * p < b * p):a < b:=Int.lt_of_mul_lt_mul_right h (Int.le_of_lt hp)
theorem raised_top {L lv:List Int} {k s:Nat} (wL:Words L) (hL:L.length=k + 2) (wv:Words lv) (hv:lv.length=k + 3) (hs:s<=63) (e:val lv=val L * 2 ^ s)
  (b0:9223372036854775808<=nth L (k + 1) * 2 ^ s) (b1:nth L (k + 1) * 2 ^ s < 18446744073709551616):nlen lv=k + 2/\9223372036854775808<=nth lv (k + 1):=by
 obtain ⟨t1,t2⟩:=top1 (n:=k + 1) wL hL
 obtain ⟨u1,u2⟩:=top1 (n:=k + 2) wv hv
 have hP:(0:Int) < 2 ^ s:=Int.pow_pos (by decide)
 have hB:=pow_pos (k + 1)
 have hC:=pow_pos (k + 2)
 have c1:(nth L (k + 1) + 1) * 2 ^ s<=18446744073709551616:=by
  have hd:(18446744073709551616:Int)=2 ^ (64 - s) * 2 ^ s:=by rw [<- Int.pow_add,show 64 - s + s=64 by omega]; rfl
  rw [hd] at b1 ⊢
  have:=le_of_mul_lt hP b1
  exact Int.mul_le_mul_of_nonneg_right (by omega) (Int.le_of_lt hP)
 have c2:val lv < 1 * 18446744073709551616 ^ (k + 2):=by
  have k1:val L * 2 ^ s < (nth L (k + 1) + 1) * 18446744073709551616 ^ (k + 1) * 2 ^ s:=Int.mul_lt_mul_of_pos_right t2 hP
  have k2:(nth L (k + 1) + 1) * 2 ^ s * 18446744073709551616 ^ (k + 1)<=18446744073709551616 * 18446744073709551616 ^ (k + 1):=Int.mul_le_mul_of_nonneg_right c1 (Int.le_of_lt hB)
  rw [Int.mul_right_comm] at k1
  rw [Int.pow_succ _ (k + 1),Int.mul_comm _ 18446744073709551616]
  omega
 have c3:nth lv (k + 2) < 1:=le_of_mul_lt hC (by omega)
 have hz:nth lv (k + 2)=0:=by have:=wv.nth (k + 2); omega
 have e1:=val_split lv (k + 2) (by omega)
 rw [val_drop (by omega),List.drop_of_length_le (show lv.length<=k + 2 + 1 by omega),hz,show val []=0 from rfl] at e1
 obtain ⟨v1,v2⟩:=top1 (n:=k + 1) (wv.take (k + 2)) (by simp; omega)
 rw [nth_take (by omega)] at v1 v2
 have c4:9223372036854775808 * 18446744073709551616 ^ (k + 1)<=val lv:=by
  have k1:nth L (k + 1) * 18446744073709551616 ^ (k + 1) * 2 ^ s<=val L * 2 ^ s:=Int.mul_le_mul_of_nonneg_right t1 (Int.le_of_lt hP)
  have k2:9223372036854775808 * 18446744073709551616 ^ (k + 1)<=nth L (k + 1) * 2 ^ s * 18446744073709551616 ^ (k + 1):=Int.mul_le_mul_of_nonneg_right b0 (Int.le_of_lt hB)
  rw [Int.mul_right_comm] at k1
  omega
 have c5:9223372036854775808 < nth lv (k + 1) + 1:=le_of_mul_lt hB (by omega)
 refine ⟨nlen_of (by omega) ?_ ?_,by omega⟩
 ·intro i hi
  by_cases hi2:i=k + 2
  ·subst hi2; exact hz
  ·simp [nth,List.getElem?_eq_none (show lv.length<=i by omega)]
 ·intro _
  rw [show k + 2 - 1=k + 1 from rfl]; omega
theorem room_ok {l L:List Int} {N k s:Nat} (wl:Words l) (hl:l.length=N) (wL:Words L) (hL:L.length=k + 2) (h1:1<=nth L (k + 1)) (hN:k + 2<=N) :
  val l * 2 ^ s < val L * 2 ^ s * 18446744073709551616 ^ (N + 1 - (k + 2)):=by
 obtain ⟨t1,t2⟩:=top1 (n:=k + 1) wL hL
 have hP:(0:Int) < 2 ^ s:=Int.pow_pos (by decide)
 have hB:=pow_pos (k + 1)
 have hD:=pow_pos (N + 1 - (k + 2))
 have h2:=val_lt wl
 rw [hl] at h2
 have k1:1 * 18446744073709551616 ^ (k + 1)<=nth L (k + 1) * 18446744073709551616 ^ (k + 1):=Int.mul_le_mul_of_nonneg_right h1 (Int.le_of_lt hB)
 have k2:18446744073709551616 ^ (k + 1) * 18446744073709551616 ^ (N + 1 - (k + 2))<=val L * 18446744073709551616 ^ (N + 1 - (k + 2)):=Int.mul_le_mul_of_nonneg_right (by omega) (Int.le_of_lt hD)
 rw [<- Int.pow_add,show k + 1 + (N + 1 - (k + 2))=N by omega] at k2
 rw [Int.mul_right_comm]
 exact Int.mul_lt_mul_of_pos_right (by omega) hP
theorem div_back {x V Q R P:Int} (hP:0 < P) (hV:0 < V) (e:x * P=Q * (V * P) + R) (r0:0<=R) (r1:R < V * P):Q=x / V/\R / P=x % V:=by
 have hR:R=(x - Q * V) * P:=by rw [Int.sub_mul,e,Int.mul_assoc]; omega
 have hd:R / P=x - Q * V:=by rw [hR,Int.mul_ediv_cancel _ (by omega)]
 have h0:0<=x - Q * V:=by rw [<- hd]; exact Int.ediv_nonneg r0 (Int.le_of_lt hP)
 have h1:x - Q * V < V:=le_of_mul_lt hP (by rw [<- hR]; exact r1)
 have hh:=(Int.ediv_emod_unique (a:=x) (b:=V) (r:=x - Q * V) (q:=Q) hV).2 ⟨by rw [Int.mul_comm V]; omega,h0,h1⟩
 exact ⟨hh.1.symm,by rw [hd]; exact hh.2.symm⟩
theorem div_long (ao:Option Addr) (n c b o:Nat) (ao':Option Addr) (n' c' b' o':Nat) (l l':List Int) (w:World) (hl:l.length=n) (hl':l'.length=n') (hc:n<=c) (hc':n'<=c') (hbig:n<=1099511627776) (hbig':n'<=1099511627776)
  (wl:Words l) (wl':Words l') (ha:At w ao b o l) (ha':At w ao' b' o' l') (hge:val l'<=val l) (h2:2<=nlen l') :
  Calls Tryz.prog 132 #[.slice ao n c,.slice ao' n' c'] w fun e w'=>DivPost w w' e (val l) (val l') n n':=by
 have h0:=val_nonneg wl
 have hn:=nlen_le l
 have hn':=nlen_le l'
 have hNN:nlen l'<=nlen l:=by
  by_cases c:nlen l < nlen l'
  ·have:=val_lt_of_nlen_lt wl wl' c; omega
  ·omega
 have t1:=trim_any ao' n' c' l' w hl' hc' (by omega) ha'.cells
 have hs':=ha'.sub (nlen l')
 rw [show l'.take (nlen l')=norm l' from rfl] at hs'
 have t2:=cmp_any ao n c b o ao' (nlen l') (nlen l') b' o' l (norm l') w hl (norm_length l') hc (Nat.le_refl _) (by omega) (by omega) wl wl'.norm ha hs'
 rw [val_norm] at t2
 have hs0:0<=sgn (val l) (val l'):=by unfold sgn; split<;>(try split)<;>omega
 have hnl':=norm_length l'
 have hw':=wl'.norm
 have hv':=val_norm l'
 have htop:nth (norm l') (nlen l' - 1)≠0:=by rw [norm_nth]; exact nlen_last (by omega)
 generalize norm l'=L' at *
 generalize hN':nlen l'=N' at *
 obtain ⟨m,hm⟩:∃ m,N'=m + 1:=⟨N' - 1,by omega⟩
 rw [show N' - 1=m by omega] at htop
 have hmi:(N':Int) - 1=m:=by omega
 have hmN:m < N':=by omega
 have hmN':(m:Int) < N':=by omega
 have hty:=hw'.nth m
 rcases hs'.loc with e | rfl
 ·subst e; simp at hnl'; omega
 generalize sgn (val l) (val l')=sg at *
 have H1:=(show Hid _ from And.intro hv' (And.intro hm (And.intro hnl' (And.intro hge (And.intro hl hN')))))
 clear hv' hm hnl' hN'
 go_enter Tryz.func132,Tryz.ntmps132
 go_wp2_with fail
 refine t1.mono ?_
 rintro e w1 ⟨rfl,rfl⟩
 go_wp2_with fail
 refine t2.mono ?_
 rintro e w2 ⟨rfl,hb2⟩
 have hcy:=(hs'.keep hb2).cell m (by rw [H1.out.2.2.1]; exact hmN)
 clear t1 t2
 go_wp2_with fail
 refine (clz_n (nth L' m) w2 (by omega) hty.2).mono ?_
 rintro e w3 ⟨s,rfl,hs,HS,rfl⟩
 have ta:=trim_any ao n c l w3 hl hc (by omega) (ha.keep hb2).cells
 have hsa:=(ha.keep hb2).sub (nlen l)
 rw [show l.take (nlen l)=norm l from rfl] at hsa
 have hnl:=norm_length l
 have hwn:=wl.norm
 have HV:=(show Hid _ from val_norm l)
 rw [hl] at hn
 generalize norm l=L at *
 generalize nlen l=N at *
 clear hcy
 go_wp2_with fail
 refine ta.mono ?_
 rintro e w4 ⟨rfl,rfl⟩
 clear ta
 go_wp2_with fail
 refine (raise_any ao N N b o s L w4 hnl (Nat.le_refl _) (by omega) hs hwn hsa).mono ?_
 rintro e w5 ⟨lu,rfl,hlu,hwu,hatu,hfu,hszu,hvu,hbu⟩
 have hs5:=(hs'.keep hb2).keep hbu
 have HU:=(show Hid _ from And.intro hlu (And.intro hvu hnl))
 clear hlu hvu hnl
 go_wp2_with fail
 refine (raise_any (some ⟨b',o',none⟩) N' N' b' o' s L' w5 H1.out.2.2.1 (Nat.le_refl _) (by omega) hs hw' hs5).mono ?_
 rintro e w6 ⟨lv,rfl,hlv,hwv,hatv,hfv,hszv,hvv,hbv⟩
 obtain ⟨k,hk⟩:∃ k,k + 2=N':=⟨N' - 2,by omega⟩
 obtain ⟨q0,hq0⟩:∃ q0,q0 + (k + 2)=N + 1:=⟨N + 1 - (k + 2),by omega⟩
 obtain ⟨hv',hm,hnl',hge',hl2,hN'⟩:=H1.out
 have hmk:m=k + 1:=by omega
 have hrt:=raised_top (k:=k) hw' (by omega) hwv (by omega) hs hvv (by rw [<- hmk]; exact HS.out.1) (by rw [<- hmk]; exact HS.out.2)
 have hro:=room_ok (s:=s) (N:=N) (k:=k) (l:=L) (L:=L') hwn HU.out.2.2 hw' (by omega) (by rw [<- hmk]; omega) (by omega)
 rw [<- HU.out.2.1,<- hvv,show N + 1 - (k + 2)=q0 by omega] at hro
 have tv:=trim_any (some ⟨w5.heap.size,0,none⟩) (N' + 1) (N' + 1) lv w6 hlv (Nat.le_refl _) (by omega) hatv.cells
 rw [hrt.1,hk] at tv
 have hsv:=hatv.sub (nlen lv)
 rw [show lv.take (nlen lv)=norm lv from rfl] at hsv
 have hnlv:=norm_length lv
 rw [hrt.1] at hnlv
 have hdl:=divideLong_any w4.heap.size 0 (N + 1) (some ⟨w5.heap.size,0,none⟩) k q0 N' w5.heap.size 0 lu (norm lv) w6 (by rw [hq0]; exact HU.out.1) hnlv (by omega) (by omega) (by omega) (by omega) hwu hwv.norm (hatu.keep hbv) (by rw [hq0]; exact Free.below hbv hfu hszu) hsv (by omega) (by rw [norm_nth]; exact hrt.2) (by rw [val_norm]; exact hro)
 rw [hq0,hk,val_norm] at hdl
 have HK:=(show Hid _ from And.intro hk (And.intro hq0 (And.intro hvv hmk)))
 have hq0n:q0<=N:=by omega
 clear hv' hm hnl' hN' hk hq0 hmk hrt hro hnlv hvv hl2
 go_wp2_with fail
 refine tv.mono ?_
 rintro e w7 ⟨rfl,rfl⟩
 clear tv
 go_wp2_with fail
 refine hdl.mono ?_
 rintro e w8 ⟨lq,lr,rfl,hdi,hatq,hfq,hatr,hfr,hbd⟩
 clear hdl
 have hlr:lr.length=N + 1:=by rw [hdi.lenu]; exact HK.out.2.1
 have HD:=(show Hid _ from hdi)
 have hwr':=hdi.wu
 clear hdi
 go_wp2_with fail
 refine (lower_any (some ⟨w4.heap.size,0,none⟩) w4.heap.size 0 (N + 1) (N + 1) s lr w8 hlr (by omega) (Nat.le_refl _) hs hwr' hatr hfr).mono ?_
 rintro e w9 ⟨rfl,lz,hlz,hwz,hatz,hwrz,hvz⟩
 have hq9:=hatq.wr hwrz (.inr (by omega))
 have hfq9:=hwrz.free hfq
 have hfz9:=hwrz.free hfr
 have tq:=trim_any (some ⟨w7.heap.size,0,none⟩) q0 q0 lq w9 HD.out.lenq (Nat.le_refl _) (by omega) hq9.cells
 have tr:=trim_any (some ⟨w4.heap.size,0,none⟩) (N + 1) (N + 1) lz w9 hlz (Nat.le_refl _) (by omega) hatz.cells
 have hz1:=nlen_le lz
 have hz2:=nlen_le lq
 rw [HD.out.lenq] at hz2
 rw [hlz] at hz1
 have HX:=(show Hid _ from And.intro hlr (And.intro hlz hvz))
 clear hlr hlz hvz
 go_wp2_with fail
 refine tq.mono ?_
 rintro e w10 ⟨rfl,rfl⟩
 go_wp2_with fail
 refine tr.mono ?_
 rintro e w11 ⟨rfl,rfl⟩
 clear tq tr
 go_wp2
 go_ret3
 have hsq:=hq9.sub (nlen lq)
 have hsz:=hatz.sub (nlen lz)
 have hsz2:=hb2.size
 have hsz5:=hbu.size
 have hsz7:=hbv.size
 have HB:Below w1.heap.size w1 w11:=(((hb2.trans (hbu.mono hsz2)).trans (hbv.mono (by omega))).trans (hbd.mono hsz2)).trans (hwrz.below hsz2)
 obtain ⟨hv',hm,hnl',hge',hl2,hN'⟩:=H1.out
 obtain ⟨hlr,hlz,hvz⟩:=HX.out
 have he:=HD.out.eq
 have hlt:=HD.out.lt
 rw [HU.out.2.1,HV.out,HK.out.2.2.1,hv',Int.pow_zero,Int.one_mul,List.drop_zero] at he
 rw [HK.out.2.2.1,hv',Int.pow_zero,Int.mul_one] at hlt
 have hV:0 < val l':=by
  have:val l'≠0:=fun e=>by have:=(nlen_eq_zero_iff_val wl').2 e; omega
  have:=val_nonneg wl'
  omega
 have hdb:=div_back (pow2_bounds s hs).1 hV he (val_nonneg hwr') hlt
 have i1:=isN_norm HD.out.wq
 have i2:=isN_norm hwz
 rw [hdb.1] at i1
 rw [hvz,hdb.2] at i2
 exact ⟨_,_,norm lq,norm lz,rfl,NewV.of (norm_length lq).symm (Nat.le_refl _) (by omega) hsq (fun i hi=>hfq9 i (by omega)),NewV.of (norm_length lz).symm (Nat.le_refl _) hsz2 hsz (fun i hi=>hfz9 i (by omega)),i1,i2,by rw [norm_length]; omega,by rw [norm_length]; omega,HB⟩
theorem div_any (ao:Option Addr) (n c b o:Nat) (ao':Option Addr) (n' c' b' o':Nat) (l l':List Int) (w:World) (hl:l.length=n) (hl':l'.length=n') (hc:n<=c) (hc':n'<=c') (hbig:n<=1099511627776) (hbig':n'<=1099511627776)
  (wl:Words l) (wl':Words l') (ha:At w ao b o l) (ha':At w ao' b' o' l') (hne:val l'≠0) :
  Calls Tryz.prog 132 #[.slice ao n c,.slice ao' n' c'] w fun e w'=>DivPost w w' e (val l) (val l') n n':=by
 by_cases h1:val l < val l'
 ·exact div_lt ao n c b o ao' n' c' b' o' l l' w hl hl' hc hc' hbig hbig' wl wl' ha ha' h1
 ·have h0:nlen l'≠0:=fun e=>hne ((nlen_eq_zero_iff_val wl').1 e)
  by_cases h2:nlen l'=1
  ·exact div_one ao n c b o ao' n' c' b' o' l l' w hl hl' hc hc' hbig hbig' wl wl' ha ha' (by omega) h2
  ·exact div_long ao n c b o ao' n' c' b' o' l l' w hl hl' hc hc' hbig hbig' wl wl' ha ha' (by omega) (by omega)
end
section
open Go.RowKit Lim
def Mine (w:World) (B:Nat) (v:Value) (l:List Int):Prop:=w.ownsRow B 31 1 v l.length (l.map (Value.int .u64))
theorem Mine.open {w:World} {B:Nat} {v:Value} {l:List Int} (h:Mine w B v l):∃ ao c,v=.slice ao l.length c/\l.length<=c/\c<=maxLen/\∃ g,(l=[]\/ao=some ⟨g,0,none⟩)/\B<=g/\At w ao g 0 l/\Free w g 0 l.length:=by
 obtain ⟨_,h2⟩:=h
 rcases h2 with ⟨rfl,h0⟩ | ⟨g,cap,cur,rfl,hB,hh,hle,hmx,hsz,htk⟩
 ·have e:l=[]:=List.eq_nil_of_length_eq_zero h0
  subst e
  exact ⟨none,0,rfl,Nat.le_refl _,by decide,B,.inl rfl,Nat.le_refl _,⟨.inl rfl,fun i hi=>by simp at hi⟩,fun i hi=>by simp at hi⟩
 ·refine ⟨some ⟨g,0,none⟩,cap,rfl,hle,hmx,g,.inr rfl,hB,⟨.inr rfl,fun i hi => ?_⟩,fun i hi => ?_⟩
  ·have e:cur.toList[i]? = some (.int .u64 (nth l i)):=by
    have h1:(cur.toList.take (l.length * 1))[i]? = some (.int .u64 (nth l i)):=by
     rw [htk,List.getElem?_map,List.getElem?_eq_getElem hi,nth_eq hi]; rfl
    rwa [Nat.mul_one,List.getElem?_take_of_lt hi] at h1
   simp only [World.cell?,hh]
   simpa using e
  ·simp [World.frozen?,hh]
theorem Mine.setCell {w:World} {B:Nat} {v:Value} {l:List Int} (h:Mine w B v l) {c g:Nat} (hv:v=.slice (some ⟨g,0,none⟩) l.length c) {i:Nat} (hi:i < l.length) (x:Int):Mine (w.setCell ⟨g,0 + i,none⟩ (.int .u64 x)) B v (l.set i x):=by
 obtain ⟨_,h2⟩:=h
 refine ⟨by simp,?_⟩
 rcases h2 with ⟨rfl,h0⟩ | ⟨g',cap,cur,rfl,hB,hh,hle,hmx,hsz,htk⟩
 ·omega
 ·simp only [Value.slice.injEq,Option.some.injEq,Addr.mk.injEq,and_true,true_and] at hv
  obtain ⟨rfl,rfl⟩:=hv
  right
  refine ⟨g',cap,cur.setIfInBounds i (.int .u64 x),by simp,hB,?_,by simpa using hle,hmx,by simpa using hsz,?_⟩
  ·simp only [World.setCell,Array.getElem?_modify,if_true,hh,Nat.zero_add]
   simp
  ·rw [List.length_set,Nat.mul_one] at *
   rw [Array.toList_setIfInBounds,List.map_set,<- htk,List.take_set]
theorem Mine.new {w w':World} {v:Value} {l:List Int} (h:Mine w' w.heap.size v l):NewV w w' v l:=by
 obtain ⟨ao,c,rfl,hc,_,g,_,hg,hat,hf⟩:=h.open
 exact ⟨ao,g,0,c,rfl,hc,hg,hat,hf⟩
structure ScInv (l:List Int) (m c0:Int) (k:Nat) (l1:List Int) (c:Int):Prop where
 len:l1.length=l.length
 words:Words l1
 high:∀ i,k<=i->nth l1 i=nth l i
 val:Lim.val (l1.take k) + 18446744073709551616 ^ k * c=Lim.val (l.take k) * m + c0
theorem ScInv.step {l l1:List Int} {m c0 c z' c':Int} {k:Nat} (h:ScInv l m c0 k l1 c) (hk:k < l.length) (hz0:0<=z') (hz1:z' < 18446744073709551616)
  (e:z' + 18446744073709551616 * c'=nth l k * m + c):ScInv l m c0 (k + 1) (l1.set k z') c':=by
 have h1:=h.len
 refine ⟨by simp [h1],h.words.set k hz0 hz1,fun i hi=>by rw [nth_set (by omega),if_neg (by omega)]; exact h.high i (by omega),?_⟩
 have h4:=h.val
 rw [val_take_succ (by simp [h1]; omega),val_take_succ hk,List.take_set_of_le (Nat.le_refl _),nth_set (by omega),if_pos rfl,Int.pow_succ]
 have:18446744073709551616 ^ k * (z' + 18446744073709551616 * c')=18446744073709551616 ^ k * (nth l k * m + c):=by rw [e]
 grind
theorem tenTo_any (n:Nat) (w:World) (hn:n<=19):Calls Tryz.prog 119 #[.int .i64 n] w fun e w'=>e=.returned (.int .u64 (10 ^ n))/\w'=w:=by
 go_enter Tryz.func119,Tryz.ntmps119
 go_wp2
 go_loop [3,5] (fun tx ti=>∃ (k:Nat) (p:Int),k<=n/\ti=.int .i64 k/\tx=.int .u64 p/\Hid (p=10 ^ k)) (fun _ ti=>n - (intOf ti).toNat)
 case atStart=>exact ⟨0,1,Nat.zero_le _,rfl,rfl,rfl⟩
 case round =>
  obtain ⟨k,p,hk,rfl,rfl,hp⟩:=hrel
  by_cases hlt:k < n
  ·have h1:(1:Int)<=p:=by rw [hp.out]; exact Int.pow_pos (by decide)
   have h2:p<=1000000000000000000:=by
    rw [hp.out]
    have:(10:Nat) ^ k<=10 ^ 18:=Nat.pow_le_pow_right (by decide) (by omega)
    have e:((10 ^ k:Nat):Int)=(10:Int) ^ k:=by rw [Int.natCast_pow]; rfl
    rw [<- e]; omega
   go_wp2
   go_round
   case rel=>exact ⟨k + 1,p * 10,by omega,by go_num,rfl,by show _=_; rw [Int.pow_succ,<- hp.out]⟩
   case measure=>simp [intOf]; omega
  ·have hkn:k=n:=by omega
   subst hkn
   go_wp2
   go_ret
   exact ⟨ret1 hp.out,rfl⟩
theorem nlen_snoc {l:List Int} {c:Int} (hc:c≠0):nlen (l ++ [c])=(l ++ [c]).length:=by
 apply nlen_of (Nat.le_refl _)
 ·intro i hi; exact nth_ge hi
 ·intro _; rw [List.length_append,List.length_singleton,Nat.add_sub_cancel,nth_append_right (Nat.le_refl _),Nat.sub_self,nth_zero]; exact hc
theorem scale_norm {l r:List Int} {m c:Int} (wl:Words l) (wr:Words r) (hlen:r.length=l.length) (hv:val r=val l * m + c) (hm:0 < m) (hc:0<=c) (hn:nlen l=l.length):nlen r=r.length:=by
 have h1:=nlen_le r
 by_cases h0:l.length=0
 ·omega
 have h2:=val_ge_of_nlen wl (by omega)
 have h3:=val_lt_nlen wr
 have h4:=val_nonneg wl
 have h5:val l * 1<=val l * m:=Int.mul_le_mul_of_nonneg_left (by omega) h4
 by_cases hlt:nlen r < r.length
 ·have:=pow_mono (show nlen r<=nlen l - 1 by omega)
  omega
 ·omega
theorem ScInv.fin {l l1:List Int} {m c0 c:Int} (h:ScInv l m c0 l.length l1 c):Lim.val (l1 ++ [c])=Lim.val l * m + c0:=by
 have h4:=h.val
 rw [List.take_of_length_le (by rw [h.len]; exact Nat.le_refl _),List.take_of_length_le (Nat.le_refl _)] at h4
 rw [val_append,val_single,h.len]; exact h4
theorem scale_any (B:Nat) (v:Value) (l:List Int) (m c0:Int) (w:World) (hB:B<=w.heap.size) (hmine:Mine w B v l) (hbig:l.length<=1099511627776) (wl:Words l) (hm0:0<=m) (hm1:m < 18446744073709551616) (hc0:0<=c0) (hc1:c0 < 18446744073709551616) :
  Calls Tryz.prog 118 #[v,.int .u64 m,.int .u64 c0] w fun e w'=>∃ v' r,e=.returned v'/\Mine w' B v' r/\Words r/\val r=val l * m + c0/\r.length<=l.length + 1/\(nlen l=l.length->0 < m->nlen r=r.length)/\Below B w w':=by
 obtain ⟨i0,hi,hz0,hz1,hz2⟩:=info_parts info_u64
 obtain ⟨ao,cap,rfl,hcap,hmax,g,hloc,hBg,_,_⟩:=hmine.open
 have hn0:∃ n,n=l.length:=⟨_,rfl⟩
 obtain ⟨n,hn⟩:=hn0
 have hn1:n<=l.length:=by omega
 have hn2:l.length<=n:=by omega
 have HN0:Hid (n=l.length):=hn
 rw [<- hn] at hmine hbig hcap ⊢
 clear hn
 go_enter Tryz.func118,Tryz.ntmps118
 go_wp2
 go_loopw [2,13] (fun tc ti wr=>∃ (k:Nat) (c:Int) (l1:List Int),k<=n/\ti=.int .i64 k/\tc=.int .u64 c/\0<=c/\c < 18446744073709551616/\ScInv l m c0 k l1 c/\Mine wr B (.slice ao n cap) l1/\Below B w wr) (fun _ ti _=>n - (intOf ti).toNat)
 case atStart=>exact ⟨0,c0,l,Nat.zero_le _,rfl,rfl,hc0,hc1,⟨rfl,wl,fun _ _=>rfl,by simp [val]⟩,hmine,Below.refl _ _⟩
 case round =>
  clear hmine
  obtain ⟨k,c,l1,hk,rfl,rfl,hcc0,hcc1,hinv,hmine,hbel⟩:=hrel
  have hlen1:=hinv.len
  by_cases hlt:k < n
  ·rcases hloc with e | rfl
   ·subst e; simp at hn1; omega
   obtain ⟨ao',c',e',_,_,g',hloc',hBg',hat,hfr⟩:=hmine.open
   simp only [Value.slice.injEq] at e'
   obtain ⟨rfl,e1,rfl⟩:=e'
   have hg':g'=g:=by
    rcases hloc' with e | e
    ·subst e; simp at e1; omega
    ·simpa using e.symm
   subst hg'
   have hcz:=hat.cell k (by omega)
   have hfz:=hfr k (by omega)
   rw [Nat.zero_add] at hcz hfz
   rw [hinv.high k (Nat.le_refl _)] at hcz
   obtain ⟨hx0,hx1⟩:=wl.nth k
   have HI:Hid (ScInv l m c0 k l1 c):=hinv
   have HM:Hid (Mine wr B (.slice (some ⟨g',0,none⟩) n cap) l1):=hmine
   have HB:Hid (Below B w wr):=hbel
   have HE:Hid (n=l1.length):=e1
   clear hinv hmine hbel hat hfr hloc' e1 wl
   go_wp2_with (first
    | (go_at_call 133; refine (mul64_n _ _ hx0 hx1 hm0 hm1 _).mono ?_; rintro e w' ⟨hi',lo,rfl,h1,h2,h3,h4,h5,rfl⟩)
    | simp only [add64 _ _ h3 hcc0])
   have hxm:nth l k * m<=340282366920938463426481119284349108225:=by
    have:=Int.mul_le_mul (show nth l k<=18446744073709551615 by omega) (show m<=18446744073709551615 by omega) hm0 (by decide)
    simpa using this
   have h5':=h5.out
   have e5:(lo + c) % 18446744073709551616 + 18446744073709551616 * (hi' + (lo + c) / 18446744073709551616)=nth l k * m + c:=by omega
   have HN:=HM.out.setCell (c:=cap) (g:=g') (by rw [<- HE.out]) (i:=k) (by omega) ((lo + c) % 18446744073709551616)
   rw [Nat.zero_add] at HN
   go_roundw
   case rel=>exact ⟨k + 1,_,_,by omega,by go_num,rfl,by omega,by omega,HI.out.step (by omega) (Int.emod_nonneg _ (by decide)) (Int.emod_lt_of_pos _ (by decide)) e5,HN,HB.out.setCell hBg' _⟩
   case measure=>simp [intOf]; omega
  ·have hkn:k=n:=by omega
   subst hkn
   have HF:Hid (val (l1 ++ [c])=val l * m + c0):=by rw [HN0.out] at hinv; exact hinv.fin
   have hw1:=hinv.words
   by_cases hc:c=0
   ·subst hc
    go_wp2
    go_ret
    have hv1:val l1=val l * m + c0:=by rw [<- HF.out,val_append]; simp [val]
    refine ⟨_,l1,rfl,hmine,hw1,hv1,by omega,fun h1 h2=>scale_norm wl hw1 (by omega) hv1 h2 hc0 (by omega),hbel⟩
   ·have hcb:(c != 0)=true:=by rw [bne_iff_ne]; exact hc
    have hown:wr.ownsRow B 31 1 (.slice ao k cap) k (l1.map (Value.int .u64)):=by have:=hmine; unfold Mine at this; rwa [hlen1,<- HN0.out] at this
    have hsz:=hbel.size
    go_wp2_with (at_builtin; refine wpList_append_own _ rfl _ _ 33 rfl B 31 i0 (.int .u64 0) 1 8 under_nat hi hz0 hz1 hz2 rfl (by decide) _ _ _ rfl (hown.alloc _) ⟨wr.heap.size,0,none⟩ 1 1 [.int .u64 c] rfl rfl ?c1 ?c2 ?c3 ?c4 ?c5 ?_)
    case c1=>exact cell_one_new _ _ _
    case c2=>intro u hu; simp at hu; subst hu; rfl
    case c3=>unfold maxLen; omega
    case c4=>omega
    case c5=>simp; omega
    intro v' w1 hown' hgrow _
    go_wp2
    go_ret
    have hM:Mine w1 B v' (l1 ++ [c]):=by
     unfold Mine
     rw [List.length_append,hlen1,<- HN0.out,List.map_append]; exact hown'
    refine ⟨_,l1 ++ [c],rfl,hM,hw1.append (Words.cons hcc0 hcc1 Words.nil),HF.out,by simp; omega,fun _ _=>nlen_snoc hc,?_⟩
    exact (hbel.alloc (by omega) _).grown hgrow (by simp; omega) (by
     intro g1 hg1
     rcases hloc with e | rfl
     ·subst e
      rcases hmine.2 with ⟨e2,_⟩ | ⟨g2,cap2,cur2,e2,hB2,_⟩
      ·rw [e2] at hg1; simp [Value.ownBlock] at hg1
      ·rw [e2] at hg1; simp [Value.ownBlock] at hg1; omega
     ·simp [Value.ownBlock] at hg1; omega)
end
section
open Go.RowKit Lim
theorem Mine.cell {w:World} {B g n c:Nat} {l:List Int} (h:Mine w B (.slice (some ⟨g,0,none⟩) n c) l) {i:Nat} (hi:i < l.length):w.cell? ⟨g,i,none⟩=some (.int .u64 (nth l i))/\w.frozen? ⟨g,i,none⟩=false:=by
 obtain ⟨ao,c',e,_,_,g',hloc,_,hat,hfr⟩:=h.open
 simp only [Value.slice.injEq] at e
 obtain ⟨rfl,_,_⟩:=e
 have hg:g'=g:=by
  rcases hloc with e | e
  ·subst e; simp at hi
  ·simpa using e.symm
 subst hg
 have h1:=hat.cell i hi
 have h2:=hfr i hi
 rw [Nat.zero_add] at h1 h2
 exact ⟨h1,h2⟩
theorem make_mine {w:World} {ops:Array Oper} {rest:List Oper} {o:Oper} {a:Act} {Q:Exit->Act->World->Prop}
  (hg:o.guard=none) (l c:Operand) (hop:o.op=Op.makeSlice 33 l c) (n m:Nat) (L C:Int) (hl:a.eval l=.int .i64 L) (hc:a.eval c=.int .i64 C) (hL:L=(n:Int)) (hC:C=(m:Int)) (hnm:n<=m) (hn:m<=17592186044416)
  (hK:∀ w',Mine w' w.heap.size (.slice (some ⟨w.heap.size,0,none⟩) n m) (List.replicate n 0)->Below w.heap.size w w'->w'.heap.size=w.heap.size + 1->wpList Tryz.prog ops Q rest (a.put o.dst (.slice (some ⟨w.heap.size,0,none⟩) n m)) w') :
  wpList Tryz.prog ops Q (o :: rest) a w:=by
 obtain ⟨i,hi,hz,hs,hb⟩:=info_parts info_u64
 refine wpList_plain hg fun K hK' => ?_
 have hrun:=run_make (P:=Tryz.prog) w 33 31 i (.int .u64 0) under_nat hi hz .i64 .i64 (n:Int) (m:Int) (by omega) (by omega) (by rw [hb]; omega) (by omega)
 subst hL
 subst hC
 unfold Oper.wp
 simp only [execOp,hop,hl,hc]
 simp [hrun,Result.andThen]
 refine hK' _ _ (hK _ ⟨by simp,.inr ⟨w.heap.size,m,((List.replicate m 0).map (Value.int .u64)).toArray,by simp,Nat.le_refl _,?_,by simpa using hnm,by unfold maxLen; omega,by simp,?_⟩⟩ ?_ ?_)
 ·show (w.heap.push _)[w.heap.size]? = _
  rw [Array.getElem?_push_size,hs,Nat.mul_one,made_u64]
 ·simp; omega
 ·exact (Below.refl _ _).alloc (Nat.le_refl _) _
 ·simp
theorem pow10_any (n:Nat) (w:World) (hn:n<=4096) :
  Calls Tryz.prog 144 #[.int .i64 n] w fun e w'=>∃ v r,e=.returned (.tuple #[v,.int .i64 0])/\NewV w w' v r/\IsN r (10 ^ n)/\r.length<=n + 2/\Below w.heap.size w w':=by
 obtain ⟨q,hq⟩:∃ q:Nat,q=n / 19:=⟨_,rfl⟩
 obtain ⟨t,ht⟩:∃ t:Nat,t=n % 19:=⟨_,rfl⟩
 have hqi:(n:Int) / 19=q:=by omega
 have hti:(n:Int) % 19=t:=by omega
 have ht1:t < 19:=by omega
 have HN:Hid (n=19 * q + t):=by show _=_; omega
 have hqn:q<=n:=by omega
 clear hq ht
 have hb0:decide ((n:Int) < 0)=false:=by simp
 have hb1:decide (4096 < (n:Int))=false:=by simp; omega
 go_enter Tryz.func144,Tryz.ntmps144
 go_wp2_with (at_make; refine make_mine rfl _ _ rfl 1 (q + 1) _ _ rfl rfl rfl (by omega) (by omega) (by omega) ?_; intro w1 hmine hbel hsz; have hcf:=hmine.cell (i:=0) (by simp); obtain ⟨hc0,hf0⟩:=hcf)
 have hm1:=hmine.setCell (c:=q + 1) (g:=w.heap.size) rfl (i:=0) (by simp) 1
 rw [show (List.replicate 1 (0:Int)).set 0 1=[1] from rfl,Nat.add_zero] at hm1
 have hb2:=hbel.setCell (p:=⟨w.heap.size,0,none⟩) (Nat.le_refl _) (.int .u64 1)
 clear hmine hbel hc0 hf0
 go_loopw [4,19] (fun tz ti wr=>∃ (k:Nat) (l:List Int),k<=q/\ti=.int .i64 k/\Mine wr w.heap.size tz l/\Words l/\Hid (nlen l=l.length)/\Hid (val l=10 ^ (19 * k))/\l.length<=k + 1/\Below w.heap.size w wr) (fun _ ti _=>q - (intOf ti).toNat)
 case atStart=>exact ⟨0,[1],Nat.zero_le _,rfl,hm1,Words.cons (by decide) (by decide) Words.nil,rfl,rfl,by simp,hb2⟩
 case round =>
  clear hm1 hb2 hsz
  obtain ⟨k,l,hk,rfl,hm,wl,hnl,hv,hlen,hbe⟩:=hrel
  have hsz:=hbe.size
  by_cases hlt:k < q
  ·go_wp2_with (go_at_call 118; refine (scale_any w.heap.size _ l 10000000000000000000 0 _ hsz hm (by omega) wl (by decide) (by decide) (by decide) (by decide)).mono ?_; rintro e w5 ⟨v',r,rfl,hm',wr',hv',hlen',hn',hbe'⟩)
   have e1:=hv.out
   have e2:=hn' hnl.out (by decide)
   go_roundw
   case rel=>exact ⟨k + 1,r,by omega,by go_num,hm',wr',e2,by show _=_; rw [hv',e1,Int.add_zero,show 19 * (k + 1)=19 * k + 19 from by omega,Int.pow_add]; rfl,by omega,hbe.trans hbe'⟩
   case measure=>simp [intOf]; omega
  ·have hkq:k=q:=by omega
   have HK:Hid (k=q):=hkq
   clear hkq
   have hten:(0:Int) < 10 ^ t:=Int.pow_pos (by decide)
   have hten1:(10:Int) ^ t < 18446744073709551616:=by
    have:(10:Nat) ^ t<=10 ^ 18:=Nat.pow_le_pow_right (by decide) (by omega)
    have e:((10 ^ t:Nat):Int)=(10:Int) ^ t:=by rw [Int.natCast_pow]; rfl
    have e2:(10:Nat) ^ 18=1000000000000000000:=by decide
    omega
   have tT:=tenTo_any t wr (by omega)
   generalize hp:(10:Int) ^ t=p at *
   have HP:Hid ((10:Int) ^ t=p):=hp
   clear hp
   go_wp2_with fail
   refine tT.mono ?_
   rintro e w4 ⟨rfl,rfl⟩
   go_wp2_with fail
   refine (scale_any w.heap.size _ l p 0 _ hsz hm (by omega) wl (by omega) hten1 (by decide) (by decide)).mono ?_
   rintro e w5 ⟨v',r,rfl,hm',wr',hv',hlen',hn',hbe'⟩
   have e1:=hv.out
   have e2:=hn' hnl.out hten
   have e3:val r=10 ^ n:=by rw [hv',e1,Int.add_zero,HN.out,Int.pow_add,HP.out,HK.out]
   clear hv'
   go_wp2
   go_ret2
   exact ⟨v',r,rfl,hm'.new,⟨wr',e2,e3⟩,by omega,hbe.trans hbe'⟩
end
section
open Go.RowKit Lim
def eqB (l l':List Int):Bool:=decide (l=l')
theorem eqB_true {l l':List Int} (h:l=l'):eqB l l'=true:=by simp [eqB,h]
theorem eqB_false {l l':List Int} (h:l≠l'):eqB l l'=false:=by simp [eqB,h]
theorem retB {a b:Bool} (h:a=b):Ending.returned (.bool a)=.returned (.bool b):=by rw [h]
theorem helpNat (ao:Option Addr) (n c b o:Nat) (ao':Option Addr) (n' c' b' o':Nat) (l l':List Int) (w:World) (hl:l.length=n) (hl':l'.length=n') (hbig:n<=4398046511104) (hbig':n'<=4398046511104)
  (ha:At w ao b o l) (ha':At w ao' b' o' l') :
  Calls Tryz.prog 61 #[.slice ao n c,.slice ao' n' c'] w fun e w'=>e=.returned (.bool (eqB l l'))/\Below w.heap.size w w':=by
 by_cases hne:n=n'
 ·subst hne
  go_enter Tryz.func61,Tryz.ntmps61
  go_wp2_with fail
  go_loopw [5] (fun ti wr=>∃ k:Nat,k<=n/\ti=.int .i64 k/\Hid (∀ i,i < k->nth l i=nth l' i)/\Below w.heap.size w wr) (fun ti _=>n - (intOf ti).toNat)
  case atStart=>exact ⟨0,Nat.zero_le _,rfl,fun i hi=>by omega,Below.refl _ _⟩
  case round =>
   obtain ⟨k,hk,rfl,hz,hbe⟩:=hrel
   by_cases hlt:k < n
   ·have hat:=ha.keep hbe
    have hat':=ha'.keep hbe
    rcases ha.loc with e | rfl
    ·subst e; simp at hl; omega
    rcases ha'.loc with e | rfl
    ·subst e; simp at hl'; omega
    have q1:=hat.cell k (by omega)
    have q2:=hat'.cell k (by omega)
    have hk0:(k:Int) < n:=by omega
    by_cases hd:nth l k=nth l' k
    ·have HY:Hid (nth l k=nth l' k):=hd
     rw [hd] at q1
     generalize nth l' k=x at q1 q2
     clear hd ha ha' hat hat'
     go_wp2_with fail
     go_quiet (fail)
     go_wp2
     go_roundw
     case rel=>exact ⟨k + 1,by omega,by go_num,fun i hi=>by
      by_cases e:i=k
      ·subst e; exact HY.out
      ·exact hz.out i (by omega),below_drewN hbe _⟩
     case measure=>simp [intOf]; omega
    ·have HF:eqB l l'=false:=eqB_false fun e=>hd (by rw [e])
     have hd':(nth l k != nth l' k)=true:=by rw [bne_iff_ne]; exact hd
     generalize nth l k=x at *
     generalize nth l' k=y at *
     clear ha ha' hat hat'
     go_wp2_with fail
     go_quiet (fail)
     go_wp2
     go_ret
     exact ⟨retB HF.symm,below_drewN hbe _⟩
   ·go_wp2
    go_ret
    exact ⟨retB (eqB_true (nth_ext (by omega) fun i hi=>hz.out i (by omega))).symm,hbe⟩
 ·have hb1:((n:Int) != (n':Int))=true:=by rw [bne_iff_ne]; omega
  have HF:eqB l l'=false:=eqB_false fun e=>hne (by rw [<- hl,<- hl',e])
  go_enter Tryz.func61,Tryz.ntmps61
  go_wp2
  go_ret
  exact ⟨retB HF.symm,Below.refl _ _⟩
end
section
open Go.RowKit Lim
end
section
open Go.RowKit Lim
theorem bpow (k:Nat):(18446744073709551616:Int) ^ k=((2 ^ (64 * k):Nat):Int):=by
 rw [Nat.pow_mul,Int.natCast_pow]; rfl
theorem bits_top {l:List Int} (wl:Words l) (hn:nlen l≠0):bitLen (val l).toNat=64 * (nlen l - 1) + bitLen (nth l (nlen l - 1)).toNat:=by
 have h0:=val_nonneg wl
 have hs:=val_split (norm l) (nlen l - 1) (by rw [norm_length]; omega)
 have hd:(norm l).drop (nlen l - 1)=[nth l (nlen l - 1)]:=by
  apply nth_ext
  ·simp [norm_length]; omega
  ·intro i hi
   simp [norm_length] at hi
   have:i=0:=by omega
   subst this
   rw [nth_drop,norm_nth,nth_zero]; rfl
 rw [hd,val_single,val_norm] at hs
 have h1:=val_lt (wl.norm.take (nlen l - 1))
 have h2:=val_nonneg (wl.norm.take (nlen l - 1))
 rw [List.length_take,norm_length,Nat.min_eq_left (by omega)] at h1
 have h3:=wl.nth (nlen l - 1)
 have h4:=nlen_last hn
 generalize nth l (nlen l - 1)=x at *
 generalize val ((norm l).take (nlen l - 1))=y at *
 generalize nlen l - 1=k at *
 rw [bpow] at hs h1
 obtain ⟨x,rfl⟩:=Int.eq_ofNat_of_zero_le h3.1
 obtain ⟨y,rfl⟩:=Int.eq_ofNat_of_zero_le h2
 obtain ⟨v,hv⟩:=Int.eq_ofNat_of_zero_le h0
 rw [hv] at hs ⊢
 have hq:v / 2 ^ (64 * k)=x:=by
  have hv2:v=y + 2 ^ (64 * k) * x:=by
   have:(v:Int)=((y + 2 ^ (64 * k) * x:Nat):Int):=by rw [hs,Int.natCast_add,Int.natCast_mul]
   exact Int.ofNat.inj this
  rw [hv2,Nat.add_mul_div_left _ _ (Nat.two_pow_pos _),Nat.div_eq_of_lt (by omega),Nat.zero_add]
 rw [Int.toNat_natCast,Int.toNat_natCast,bitLen_shift v (64 * k) (by rw [hq]; omega),hq]
theorem bits_any (ao:Option Addr) (n c b o:Nat) (l:List Int) (w:World) (hl:l.length=n) (hc:n<=c) (hbig:n<=1099511627776) (wl:Words l) (ha:At w ao b o l) :
  Calls Tryz.prog 77 #[.slice ao n c] w fun e w'=>e=.returned (.int .i64 (bitLen (val l).toNat))/\Below w.heap.size w w':=by
 have hn:=nlen_le l
 have t1:=trim_any ao n c l w hl hc (by omega) ha.cells
 by_cases h0:nlen l=0
 ·rw [h0] at t1
  have hv:(val l).toNat=0:=by rw [(nlen_eq_zero_iff_val wl).1 h0]; rfl
  rw [hv,show bitLen 0=0 from rfl]
  go_enter Tryz.func77,Tryz.ntmps77
  go_wp2_with fail
  refine t1.mono ?_
  rintro e w1 ⟨rfl,rfl⟩
  go_wp2_with fail
  go_ret
  exact ⟨rfl,Below.refl _ _⟩
 ·have ht:=bits_top wl h0
  have hx:=wl.nth (nlen l - 1)
  have hcell:=ha.cell (nlen l - 1) (by omega)
  have hl64:=bitLen_le64 (n:=(nth l (nlen l - 1)).toNat) (by omega)
  have t2:=fun wx=>clz64 (nth l (nlen l - 1)) wx hx.1 hx.2
  rcases ha.loc with e | rfl
  ·subst e; simp [nlen] at h0
  rw [ht]
  generalize nth l (nlen l - 1)=x at *
  generalize bitLen x.toNat=L at *
  clear ht ha
  obtain ⟨k,hk⟩:∃ k,nlen l=k + 1:=⟨nlen l - 1,by omega⟩
  rw [hk] at t1 hcell hn ⊢
  rw [Nat.add_sub_cancel] at hcell ⊢
  clear hk h0
  have hk0:(k:Int) < (k:Int) + 1:=by omega
  go_enter Tryz.func77,Tryz.ntmps77
  go_wp2_with fail
  refine t1.mono ?_
  rintro e w1 ⟨rfl,rfl⟩
  clear t1
  go_wp2_with fail
  refine (t2 _).mono ?_
  rintro e w2 ⟨rfl,rfl⟩
  go_wp2
  go_ret
  exact ⟨ret1 (by omega),Below.refl _ _⟩
theorem val_set {l:List Int} {i:Nat} (h:i < l.length) (x:Int):val (l.set i x)=val l + 18446744073709551616 ^ i * (x - nth l i):=by
 have e1:=val_split (l.set i x) i (by simp; omega)
 have e2:=val_split l i (by omega)
 rw [List.take_set_of_le (Nat.le_refl _),List.drop_set,if_neg (by omega),Nat.sub_self] at e1
 rw [List.drop_eq_getElem_cons h,List.set_cons_zero,val] at e1
 rw [List.drop_eq_getElem_cons h,val] at e2
 rw [e1,e2,nth_eq h]; grind
theorem limb_lt {l:List Int} (wl:Words l) {i:Nat} (h:i < l.length) {P:Int} (hP:val l < 18446744073709551616 ^ i * P):nth l i < P:=by
 have e2:=val_split l i (by omega)
 rw [List.drop_eq_getElem_cons h,val] at e2
 have h1:=val_nonneg (wl.take i)
 have h2:=val_nonneg (wl.drop (i + 1))
 have hp:=pow_pos i
 have h3:0<=18446744073709551616 ^ i * (18446744073709551616 * val (l.drop (i + 1))):=Int.mul_nonneg (Int.le_of_lt hp) (by omega)
 rw [Int.mul_add] at e2
 have h4:18446744073709551616 ^ i * nth l i < 18446744073709551616 ^ i * P:=by rw [nth_eq h]; omega
 exact Int.lt_of_mul_lt_mul_left h4 (Int.le_of_lt hp)
end
section
open Go.RowKit Lim
def isD (c:UInt8):Bool:=decide (48<=c.toNat/\c.toNat<=57)
def dval (l:List UInt8):Int:=l.foldl (fun x c=>10 * x + ((c.toNat:Int) - 48)) 0
def isT (l:List UInt8):Bool := !l.isEmpty && (!(l.head? == some 48) || decide (l.length=1)) && l.all isD
def allD (l:List UInt8):Bool:=l.all isD
theorem dval_snoc (l:List UInt8) (c:UInt8):dval (l ++ [c])=10 * dval l + ((c.toNat:Int) - 48):=by simp [dval,List.foldl_append]
theorem dval_fold (l:List UInt8):∀ x:Int,l.foldl (fun x c=>10 * x + ((c.toNat:Int) - 48)) x=x * 10 ^ l.length + dval l:=by
 induction l with
 | nil=>intro x; simp [dval]
 | cons c l ih =>
  intro x
  have e:dval (c :: l)=((c.toNat:Int) - 48) * 10 ^ l.length + dval l:=by rw [dval,List.foldl_cons,ih]; simp
  rw [List.foldl_cons,ih,e,List.length_cons,Int.pow_succ]; grind
theorem dval_append (a b:List UInt8):dval (a ++ b)=dval a * 10 ^ b.length + dval b:=by
 rw [dval,List.foldl_append,dval_fold]; rfl
theorem dval_bound {l:List UInt8} (h:l.all isD=true):0<=dval l/\dval l < 10 ^ l.length:=by
 induction l with
 | nil=>simp [dval]
 | cons c l ih =>
  simp only [List.all_cons,Bool.and_eq_true,isD,decide_eq_true_eq] at h
  have:=ih h.2
  have e:dval (c :: l)=((c.toNat:Int) - 48) * 10 ^ l.length + dval l:=by rw [show c :: l=[c] ++ l from rfl,dval_append]; simp [dval]
  have hp:(0:Int) < 10 ^ l.length:=Int.pow_pos (by decide)
  have h1:0<=((c.toNat:Int) - 48) * 10 ^ l.length:=Int.mul_nonneg (by omega) (Int.le_of_lt hp)
  have h2:((c.toNat:Int) - 48) * 10 ^ l.length<=9 * 10 ^ l.length:=Int.mul_le_mul_of_nonneg_right (by omega) (Int.le_of_lt hp)
  rw [e,List.length_cons,Int.pow_succ]
  omega
theorem pow10_le {a b:Nat} (h:a<=b):(10:Int) ^ a<=10 ^ b:=by
 have:(10:Nat) ^ a<=10 ^ b:=Nat.pow_le_pow_right (by decide) h
 have e1:((10 ^ a:Nat):Int)=(10:Int) ^ a:=by rw [Int.natCast_pow]; rfl
 have e2:((10 ^ b:Nat):Int)=(10:Int) ^ b:=by rw [Int.natCast_pow]; rfl
 omega
theorem take_snoc (s:ByteArray) (k:Nat) (h:k < s.size):s.data.toList.take (k + 1)=s.data.toList.take k ++ [s[k]]:=by
 rw [List.take_succ_eq_append_getElem (by simpa using h)]; rfl
theorem all_take_succ (s:ByteArray) (k:Nat) (h:k < s.size):(s.data.toList.take (k + 1)).all isD=((s.data.toList.take k).all isD && isD s[k]):=by
 rw [take_snoc s k h,List.all_append]; simp
theorem len_data (s:ByteArray):s.data.toList.length=s.size:=by simp
theorem group_any (s:ByteArray) (w:World) (hs:s.size<=19) (hd:s.data.toList.all isD=true) :
  Calls Tryz.prog 120 #[.string s] w fun e w'=>e=.returned (.int .u64 (dval s.data.toList))/\w'=w:=by
 have hall:∀ k,(s.data.toList.take k).all isD=true:=fun k=>by
  rw [List.all_eq_true] at hd ⊢
  exact fun x hx=>hd x (List.mem_of_mem_take hx)
 have HA:Hid (∀ k,(s.data.toList.take k).all isD=true):=hall
 clear hall hd
 go_enter Tryz.func120,Tryz.ntmps120
 go_wp2
 go_loop [3,7] (fun tx ti=>∃ k:Nat,k<=s.size/\ti=.int .i64 k/\tx=.int .u64 (dval (s.data.toList.take k))) (fun _ ti=>s.size - (intOf ti).toNat)
 case atStart=>exact ⟨0,Nat.zero_le _,rfl,rfl⟩
 case round =>
  obtain ⟨k,hk,rfl,rfl⟩:=hrel
  by_cases hlt:k < s.size
  ·have h1:=dval_bound (HA.out k)
   have h2:=HA.out (k + 1)
   rw [all_take_succ s k hlt] at h2
   have HS:Hid (dval (s.data.toList.take (k + 1))=10 * dval (s.data.toList.take k) + ((s[k].toNat:Int) - 48)):=by show _=_; rw [take_snoc s k hlt,dval_snoc]
   have h3:(48:Int)<=s[k].toNat/\(s[k].toNat:Int)<=57:=by
    simp only [isD,Bool.and_eq_true,decide_eq_true_eq] at h2; omega
   have h4:dval (s.data.toList.take k) < 1000000000000000000:=by
    have:=pow10_le (show (s.data.toList.take k).length<=18 by simp; omega)
    have e:(10:Int) ^ 18=1000000000000000000:=by decide
    omega
   have h5:=h1.1
   obtain ⟨h6,h7⟩:=h3
   clear h1 h2
   generalize dval (s.data.toList.take k)=D at *
   go_wp2
   go_round
   case rel=>exact ⟨k + 1,by omega,by go_num,by rw [HS.out]⟩
   case measure=>simp [intOf]; omega
  ·go_wp2
   go_ret
   exact ⟨ret1 (by rw [List.take_of_length_le (by simp; omega)]),rfl⟩
theorem toList_data (s:ByteArray):s.toList=s.data.toList:=ByteArray.toList_eq s
theorem retb {a b:Bool} (h:a=b):Ending.returned (.bool a)=.returned (.bool b):=by rw [h]
theorem isT_iff (s:ByteArray) (h:0 < s.size):isT s.data.toList=((!decide (s[0].toNat=48) || decide (s.size=1)) && s.data.toList.all isD):=by
 have e:s.data.toList.head? = some s[0]:=by rw [List.head?_eq_getElem?,List.getElem?_eq_getElem (by simpa using h)]; rfl
 have e1:s.data.toList.isEmpty=false:=by
  rw [List.isEmpty_eq_false_iff]; intro e2; have:=len_data s; rw [e2] at this; simp at this; omega
 have e2:(some s[0] == some (48:UInt8))=decide (s[0].toNat=48):=by
  rw [Bool.eq_iff_iff]; simp; exact ⟨fun h=>by rw [h]; rfl,fun h=>UInt8.toNat_inj.1 h⟩
 simp only [isT,e,e1,e2,len_data,Bool.not_false,Bool.true_and]
theorem isText_loop (s:ByteArray) (w:World) (h0:0 < s.size) (hs:s.size<=1099511627776) (hz:¬ (s[0].toNat=48/\1 < s.size)) :
  Calls Tryz.prog 117 #[.string s] w fun e w'=>e=.returned (.bool (allD s.data.toList))/\w'=w:=by
 have hemp:s.toList.isEmpty=false:=by
  rw [List.isEmpty_eq_false_iff]; intro e2; have:=len_data s; rw [<- toList_data,e2] at this; simp at this; omega
 have hcase:(((s[0].toNat:Int) == 48)=false)\/(((s[0].toNat:Int) == 48)=true/\s.size=1):=by
  by_cases c:s[0].toNat=48
  ·right; exact ⟨by rw [beq_iff_eq]; omega,by omega⟩
  ·left; rw [beq_eq_false_iff_ne]; omega
 have hwhole:s.data.toList.take s.size=s.data.toList:=List.take_of_length_le (by simp)
 have HW:=(show Hid _ from hwhole)
 clear hwhole
 have FAIL:Hid (∀ k,(h:k < s.size)->isD s[k]=false->s.data.toList.all isD=false):=by
  intro k h hd
  rw [Bool.eq_false_iff]
  intro hall
  rw [List.all_eq_true] at hall
  have:=hall s[k] (by rw [show s[k]=s.data.toList[k]'(by simpa using h) from rfl]; exact List.getElem_mem _)
  rw [hd] at this; exact absurd this (by decide)
 rcases hcase with hc | ⟨hc,hc1⟩
 ·go_enter Tryz.func117,Tryz.ntmps117
  go_wp2
  go_loop [18] (fun ti=>∃ k:Nat,k<=s.size/\ti=.int .i64 k/\Hid ((s.data.toList.take k).all isD=true)) (fun ti=>s.size - (intOf ti).toNat)
  case atStart=>exact ⟨0,Nat.zero_le _,rfl,rfl⟩
  case round =>
   obtain ⟨k,hk,rfl,hall⟩:=hrel
   by_cases hlt:k < s.size
   ·by_cases d1:(s[k].toNat:Int) < 48
    ·have HF:Hid (s.data.toList.all isD=false):=FAIL.out k hlt (by simp [isD]; omega)
     go_wp2
     go_ret
     exact ⟨retb HF.out.symm,rfl⟩
    ·by_cases d2:(57:Int) < s[k].toNat
     ·have HF:Hid (s.data.toList.all isD=false):=FAIL.out k hlt (by simp [isD]; omega)
      go_wp2
      go_ret
      exact ⟨retb HF.out.symm,rfl⟩
     ·have HN:Hid ((s.data.toList.take (k + 1)).all isD=true):=by
       show _=_
       rw [all_take_succ s k hlt,hall.out,Bool.true_and]
       simp [isD]; omega
      go_wp2
      go_round
      case rel=>exact ⟨k + 1,by omega,by go_num,HN⟩
      case measure=>simp [intOf]; omega
   ·have hkn:k=s.size:=by omega
    have HA:Hid (s.data.toList.all isD=true):=by rw [<- HW.out,<- hkn]; exact hall
    clear hkn
    go_wp2
    go_ret
    exact ⟨retb HA.out.symm,rfl⟩
 ·have hle:s.size<=1:=by omega
  clear hc1
  have hnb:decide (1 < (s.size:Int))=false:=by simp; omega
  go_enter Tryz.func117,Tryz.ntmps117
  go_wp2
  go_loop [18] (fun ti=>∃ k:Nat,k<=s.size/\ti=.int .i64 k/\Hid ((s.data.toList.take k).all isD=true)) (fun ti=>s.size - (intOf ti).toNat)
  case atStart=>exact ⟨0,Nat.zero_le _,rfl,rfl⟩
  case round =>
   obtain ⟨k,hk,rfl,hall⟩:=hrel
   by_cases hlt:k < s.size
   ·by_cases d1:(s[k].toNat:Int) < 48
    ·have HF:Hid (s.data.toList.all isD=false):=FAIL.out k hlt (by simp [isD]; omega)
     go_wp2
     go_ret
     exact ⟨retb HF.out.symm,rfl⟩
    ·by_cases d2:(57:Int) < s[k].toNat
     ·have HF:Hid (s.data.toList.all isD=false):=FAIL.out k hlt (by simp [isD]; omega)
      go_wp2
      go_ret
      exact ⟨retb HF.out.symm,rfl⟩
     ·have HN:Hid ((s.data.toList.take (k + 1)).all isD=true):=by
       show _=_
       rw [all_take_succ s k hlt,hall.out,Bool.true_and]
       simp [isD]; omega
      go_wp2
      go_round
      case rel=>exact ⟨k + 1,by omega,by go_num,HN⟩
      case measure=>simp [intOf]; omega
   ·have hkn:k=s.size:=by omega
    have HA:Hid (s.data.toList.all isD=true):=by rw [<- HW.out,<- hkn]; exact hall
    clear hkn
    go_wp2
    go_ret
    exact ⟨retb HA.out.symm,rfl⟩
theorem isText_any (s:ByteArray) (w:World) (hs:s.size<=1099511627776) :
  Calls Tryz.prog 117 #[.string s] w fun e w'=>e=.returned (.bool (isT s.data.toList))/\w'=w:=by
 by_cases h0:0 < s.size
 ·by_cases hz:s[0].toNat=48/\1 < s.size
  ·have hf:isT s.data.toList=false:=by
    rw [isT_iff s h0]; simp [hz.1]; omega
   have hemp:s.toList.isEmpty=false:=by
    rw [List.isEmpty_eq_false_iff]; intro e2; have:=len_data s; rw [<- toList_data,e2] at this; simp at this; omega
   have hc:((s[0].toNat:Int) == 48)=true:=by rw [beq_iff_eq]; omega
   have h1:(1:Int) < s.size:=by omega
   clear hz
   generalize isT s.data.toList=T at *
   subst hf
   go_enter Tryz.func117,Tryz.ntmps117
   go_wp2
   go_ret
   exact ⟨rfl,rfl⟩
  ·refine (isText_loop s w h0 hs hz).mono ?_
   rintro e w' ⟨rfl,rfl⟩
   refine ⟨retb ?_,rfl⟩
   rw [isT_iff s h0]
   have:(!decide (s[0].toNat=48) || decide (s.size=1))=true:=by
    by_cases c:s[0].toNat=48
    ·simp [c]; omega
    ·simp [c]
   rw [this,Bool.true_and]; rfl
 ·have e:s.data.toList=[]:=List.eq_nil_of_length_eq_zero (by rw [len_data]; omega)
  have hemp:s.toList.isEmpty=true:=by rw [toList_data,e]; rfl
  have hf:isT s.data.toList=false:=by rw [e]; rfl
  generalize isT s.data.toList=T at *
  subst hf
  clear e
  go_enter Tryz.func117,Tryz.ntmps117
  go_wp2
  go_ret
  exact ⟨rfl,rfl⟩
end
section
open Go.RowKit Lim
theorem ext_data (s:ByteArray) (a b:Nat):(s.extract a b).data.toList=(s.data.toList.drop a).take (b - a):=by
 simp [ByteArray.data_extract,List.extract_eq_take_drop]
theorem Mine.drewM {w:World} {B:Nat} {v:Value} {l:List Int} (h:Mine w B v l):Mine w.drew B v l:=h
theorem parse_yes (s:ByteArray) (w:World) (hs:s.size<=1099511627776) (ht:isT s.data.toList=true) :
  Calls Tryz.prog 91 #[.string s] w fun e w'=>∃ v r,e=.returned (.tuple #[v,.int .i64 0])/\NewV w w' v r/\IsN r (dval s.data.toList)/\r.length<=s.size + 1/\Below w.heap.size w w':=by
 have t1:=isText_any s w hs
 rw [ht] at t1
 have hall:s.data.toList.all isD=true:=by simp only [isT,Bool.and_eq_true] at ht; exact ht.2
 have HALL:=(show Hid (s.data.toList.all isD=true) from hall)
 have HSZ:=(show Hid (s.data.toList.length=s.size) from len_data s)
 clear ht hall
 go_enter Tryz.func91,Tryz.ntmps91
 go_wp2_with fail
 refine t1.mono ?_
 rintro e w1 ⟨rfl,rfl⟩
 clear t1
 obtain ⟨q,hq⟩:∃ q:Nat,(s.size:Int) / 19=q:=⟨s.size / 19,by omega⟩
 have hq1:q<=1099511627776:=by omega
 go_wp2_with (at_make; refine make_mine rfl _ _ rfl 0 (q + 1) _ _ rfl rfl rfl (by omega) (by omega) (by omega) ?_; intro w2 hmine hbel hsz)
 rw [show List.replicate 0 (0:Int)=[] from rfl] at hmine
 go_loopw [0,4] (fun ts tz wr=>∃ (t:ByteArray) (pre:List UInt8) (l:List Int),ts=.string t/\t.size<=s.size/\Hid (s.data.toList=pre ++ t.data.toList)/\Mine wr w1.heap.size tz l/\Words l/\Hid (nlen l=l.length)/\Hid (val l=dval pre)/\l.length + t.size<=s.size/\Below w1.heap.size w1 wr) (fun ts _ _=>match ts with | .string t=>t.size | _=>0)
 case atStart=>exact ⟨s,[],[],rfl,Nat.le_refl _,rfl,hmine,Words.nil,rfl,rfl,by simp,hbel⟩
 case round =>
  clear hmine hbel hsz
  obtain ⟨t,pre,l,rfl,hts,hpre,hm,wl,hnl,hv,hlen,hbe⟩:=hrel
  have hsz:=hbe.size
  by_cases hlt:0 < t.size
  ·by_cases h19:(t.size:Int) < 19
   ·have hdl:((t).data.toList)=t.data.toList.take t.size:=by exact (List.take_of_length_le (by simp)).symm
    have hsz0:(t).size=t.size:=by rfl
    have hall1:(t.data.toList.take t.size).all isD=true:=by
     have h1:=HALL.out
     rw [hpre.out,List.all_append,Bool.and_eq_true] at h1
     rw [List.all_eq_true] at h1 ⊢
     exact fun x hx=>by
      have h2:=h1.2
      rw [List.all_eq_true] at h2
      exact h2 x (List.mem_of_mem_take hx)
    have tG:=fun wx=>group_any (t) wx (by omega) (by rw [hdl]; exact hall1)
    have tT:=fun wx=>tenTo_any t.size wx (by omega)
    have hdb:=dval_bound hall1
    have hlen1:(t.data.toList.take t.size).length=t.size:=by simp
    rw [hdl] at tG
    rw [hlen1] at hdb
    have _hk:=hsz
    have hten1:(10:Int) ^ t.size < 18446744073709551616:=by
     have h1:=pow10_le (show t.size<=19 by omega)
     have h2:(10:Int) ^ 19=10000000000000000000:=by decide
     omega
    have hten:(0:Int) < 10 ^ t.size:=Int.pow_pos (by decide)
    have HV:Hid (dval (pre ++ t.data.toList.take t.size)=dval pre * 10 ^ t.size + dval (t.data.toList.take t.size)):=by show _=_; rw [dval_append,hlen1]
    have HP:Hid (s.data.toList=(pre ++ t.data.toList.take t.size) ++ (t.data.toList.drop t.size)):=by show _=_; rw [List.append_assoc,List.take_append_drop]; exact hpre.out
    obtain ⟨d0,d1⟩:=hdb
    generalize hD:dval (t.data.toList.take t.size)=D at *
    generalize hT:(10:Int) ^ t.size=T at *
    clear hall1 hlen1 hdl hsz0 hD hT
    go_wp2_with fail
    go_region_with (first
     | (go_at_call 119; refine (tT _).mono ?_; rintro e w3 ⟨rfl,rfl⟩)
     | (go_at_call 120; refine (tG _).mono ?_; rintro e w4 ⟨rfl,rfl⟩)
     | (go_at_call 118; refine (scale_any w1.heap.size _ l T D _ (by exact hsz) (by exact hm.drewM) (by omega) wl (by omega) (by omega) d0 (by omega)).mono ?_; rintro e w5 ⟨v',r,rfl,hm',wr',hv',hlen',hn',hbe'⟩))
    all_goals go_wp2
    have hxs:(t.extract t.size t.size).size=t.size - t.size:=by simp
    go_roundw
    case rel =>
     refine ⟨t.extract t.size t.size,pre ++ t.data.toList.take t.size,r,by simp,by omega,?_,hm',wr',hn' hnl.out (by omega),?_,by omega,hbe.drew.trans hbe'⟩
     ·show _=_
      rw [ext_data,HP.out,List.take_of_length_le (l:=t.data.toList.drop t.size) (by simp)]
     ·show _=_
      rw [hv',hv.out,HV.out]
    case measure=>simp; omega
   ·have hdl:((t.extract 0 19).data.toList)=t.data.toList.take 19:=by rw [ext_data]; simp
    have hsz0:(t.extract 0 19).size=19:=by simp; omega
    have hall1:(t.data.toList.take 19).all isD=true:=by
     have h1:=HALL.out
     rw [hpre.out,List.all_append,Bool.and_eq_true] at h1
     rw [List.all_eq_true] at h1 ⊢
     exact fun x hx=>by
      have h2:=h1.2
      rw [List.all_eq_true] at h2
      exact h2 x (List.mem_of_mem_take hx)
    have tG:=fun wx=>group_any (t.extract 0 19) wx (by omega) (by rw [hdl]; exact hall1)
    have tT:=fun wx=>tenTo_any 19 wx (by omega)
    have hdb:=dval_bound hall1
    have hlen1:(t.data.toList.take 19).length=19:=by simp; omega
    rw [hdl] at tG
    rw [hlen1] at hdb
    rw [show ((19:Nat):Int)=19 from rfl] at tT
    have hten1:(10:Int) ^ 19 < 18446744073709551616:=by
     have h1:=pow10_le (show 19<=19 by omega)
     have h2:(10:Int) ^ 19=10000000000000000000:=by decide
     omega
    have hten:(0:Int) < 10 ^ 19:=Int.pow_pos (by decide)
    have HV:Hid (dval (pre ++ t.data.toList.take 19)=dval pre * 10 ^ 19 + dval (t.data.toList.take 19)):=by show _=_; rw [dval_append,hlen1]
    have HP:Hid (s.data.toList=(pre ++ t.data.toList.take 19) ++ (t.data.toList.drop 19)):=by show _=_; rw [List.append_assoc,List.take_append_drop]; exact hpre.out
    obtain ⟨d0,d1⟩:=hdb
    generalize hD:dval (t.data.toList.take 19)=D at *
    generalize hT:(10:Int) ^ 19=T at *
    clear hall1 hlen1 hdl hsz0 hD hT
    go_wp2_with fail
    go_region_with (first
     | (go_at_call 119; refine (tT _).mono ?_; rintro e w3 ⟨rfl,rfl⟩)
     | (go_at_call 120; refine (tG _).mono ?_; rintro e w4 ⟨rfl,rfl⟩)
     | (go_at_call 118; refine (scale_any w1.heap.size _ l T D _ (by exact hsz) (by exact hm.drewM) (by omega) wl (by omega) (by omega) d0 (by omega)).mono ?_; rintro e w5 ⟨v',r,rfl,hm',wr',hv',hlen',hn',hbe'⟩))
    all_goals go_wp2
    have hxs:(t.extract 19 t.size).size=t.size - 19:=by simp
    go_roundw
    case rel =>
     refine ⟨t.extract 19 t.size,pre ++ t.data.toList.take 19,r,rfl,by omega,?_,hm',wr',hn' hnl.out (by omega),?_,by omega,hbe.drew.trans hbe'⟩
     ·show _=_
      rw [ext_data,HP.out,List.take_of_length_le (l:=t.data.toList.drop 19) (by simp)]
     ·show _=_
      rw [hv',hv.out,HV.out]
    case measure=>simp; omega
  ·have ht0:t.data.toList=[]:=List.eq_nil_of_length_eq_zero (by rw [len_data]; omega)
   have HP:Hid (s.data.toList=pre):=by have:=hpre.out; rw [ht0,List.append_nil] at this; exact this
   clear ht0 hpre
   go_wp2
   go_ret2
   exact ⟨_,l,rfl,hm.new,⟨wl,hnl.out,by rw [hv.out,HP.out]⟩,by omega,hbe⟩
end
section
open Go.RowKit Lim
structure NatA (w:World) (ao:Option Addr) (n c:Nat) (x:Int):Prop where
 ex:∃ b o l,l.length=n/\n<=c/\Words l/\At w ao b o l/\val l=x
structure NatO (w:World) (ao:Option Addr) (n c:Nat) (x:Int):Prop where
 ex:∃ b o l,l.length=n/\n<=c/\IsN l x/\At w ao b o l
theorem NatO.a {w:World} {ao:Option Addr} {n c:Nat} {x:Int} (h:NatO w ao n c x):NatA w ao n c x:=by
 obtain ⟨b,o,l,h1,h2,h3,h4⟩:=h.ex
 exact ⟨b,o,l,h1,h2,h3.1,h4,h3.2.2⟩
theorem NatA.keep {w w':World} {ao:Option Addr} {n c:Nat} {x:Int} (h:NatA w ao n c x) (hb:Below w.heap.size w w'):NatA w' ao n c x:=by
 obtain ⟨b,o,l,h1,h2,h3,h4,h5⟩:=h.ex
 exact ⟨b,o,l,h1,h2,h3,h4.keep hb,h5⟩
theorem NatO.keep {w w':World} {ao:Option Addr} {n c:Nat} {x:Int} (h:NatO w ao n c x) (hb:Below w.heap.size w w'):NatO w' ao n c x:=by
 obtain ⟨b,o,l,h1,h2,h3,h4⟩:=h.ex
 exact ⟨b,o,l,h1,h2,h3,h4.keep hb⟩
theorem NatA.nonneg {w:World} {ao:Option Addr} {n c:Nat} {x:Int} (h:NatA w ao n c x):0<=x:=by
 obtain ⟨b,o,l,h1,h2,h3,h4,h5⟩:=h.ex
 rw [<- h5]; exact val_nonneg h3
theorem NatO.zero_iff {w:World} {ao:Option Addr} {n c:Nat} {x:Int} (h:NatO w ao n c x):n=0<->x=0:=by
 obtain ⟨b,o,l,h1,h2,h3,h4⟩:=h.ex
 rw [<- h3.2.2,<- nlen_eq_zero_iff_val h3.1,h3.2.1,h1]
theorem NatO.eqv {w:World} {ao:Option Addr} {n c:Nat} {x y:Int} (h:NatO w ao n c x) (e:x=y):NatO w ao n c y:=e▸h
theorem natO_nil (w:World):NatO w none 0 0 0:=⟨0,0,[],rfl,Nat.le_refl _,isN_nil,.inl rfl,fun i hi=>by simp at hi⟩
theorem NewV.o {w w':World} {v:Value} {r:List Int} {x:Int} (h:NewV w w' v r) (hI:IsN r x):∃ a c,v=.slice a r.length c/\NatO w' a r.length c x:=by
 obtain ⟨ao,b,o,c,e,h1,h2,h3,h4⟩:=h.is
 exact ⟨ao,c,e,b,o,r,rfl,h1,hI,h3⟩
theorem joinB {w wa w':World} (b:Below w.heap.size w wa) (h:Below wa.heap.size wa w'):Below w.heap.size w w':=b.trans (h.mono b.size)
theorem nAdd {w:World} {ao ao':Option Addr} {n c n' c':Nat} {x y:Int} (h:NatA w ao n c x) (h':NatA w ao' n' c' y) (hn:n<=1099511627776) (hn':n'<=1099511627776) :
  Calls Tryz.prog 87 #[.slice ao n c,.slice ao' n' c'] w fun e w'=>∃ a k d,e=.returned (.slice a k d)/\NatO w' a k d (x + y)/\k<=n + n' + 1/\Below w.heap.size w w':=by
 obtain ⟨b,o,l,h1,h2,h3,h4,rfl⟩:=h.ex
 obtain ⟨b',o',l',h1',h2',h3',h4',rfl⟩:=h'.ex
 refine (add_any ao n c b o ao' n' c' b' o' l l' w h1 h1' h2 h2' hn hn' h3 h3' h4 h4').mono ?_
 rintro e w' ⟨v,r,rfl,hnw,hI,hlen,hB⟩
 obtain ⟨a,d,rfl,hO⟩:=hnw.o hI
 exact ⟨a,_,d,rfl,hO,hlen,hB⟩
theorem nMul {w:World} {ao ao':Option Addr} {n c n' c':Nat} {x y:Int} (h:NatA w ao n c x) (h':NatA w ao' n' c' y) (hn:n<=1099511627776) (hn':n'<=1099511627776) :
  Calls Tryz.prog 83 #[.slice ao n c,.slice ao' n' c'] w fun e w'=>∃ a k d,e=.returned (.slice a k d)/\NatO w' a k d (x * y)/\k<=n + n'/\Below w.heap.size w w':=by
 obtain ⟨b,o,l,h1,h2,h3,h4,rfl⟩:=h.ex
 obtain ⟨b',o',l',h1',h2',h3',h4',rfl⟩:=h'.ex
 refine (mul_any ao n c b o ao' n' c' b' o' l l' w h1 h1' h2 h2' hn hn' h3 h3' h4 h4').mono ?_
 rintro e w' ⟨v,r,rfl,hnw,hI,hlen,hB⟩
 obtain ⟨a,d,rfl,hO⟩:=hnw.o hI
 exact ⟨a,_,d,rfl,hO,hlen,hB⟩
theorem nCmp {w:World} {ao ao':Option Addr} {n c n' c':Nat} {x y:Int} (h:NatA w ao n c x) (h':NatA w ao' n' c' y) (hn:n<=1099511627776) (hn':n'<=1099511627776) :
  Calls Tryz.prog 89 #[.slice ao n c,.slice ao' n' c'] w fun e w'=>e=.returned (.int .i64 (sgn x y))/\Below w.heap.size w w':=by
 obtain ⟨b,o,l,h1,h2,h3,h4,rfl⟩:=h.ex
 obtain ⟨b',o',l',h1',h2',h3',h4',rfl⟩:=h'.ex
 exact cmp_any ao n c b o ao' n' c' b' o' l l' w h1 h1' h2 h2' hn hn' h3 h3' h4 h4'
theorem nDiv {w:World} {ao ao':Option Addr} {n c n' c':Nat} {x y:Int} (h:NatA w ao n c x) (h':NatA w ao' n' c' y) (hn:n<=1099511627776) (hn':n'<=1099511627776) (hne:y≠0) :
  Calls Tryz.prog 132 #[.slice ao n c,.slice ao' n' c'] w fun e w'=>∃ a k d a' k' d',e=.returned (.tuple #[.slice a k d,.slice a' k' d',.int .i64 0])/\NatO w' a k d (x / y)/\NatO w' a' k' d' (x % y)/\k<=n/\k'<=n + n'/\Below w.heap.size w w':=by
 obtain ⟨b,o,l,h1,h2,h3,h4,rfl⟩:=h.ex
 obtain ⟨b',o',l',h1',h2',h3',h4',rfl⟩:=h'.ex
 refine (div_any ao n c b o ao' n' c' b' o' l l' w h1 h1' h2 h2' hn hn' h3 h3' h4 h4' hne).mono ?_
 rintro e w' ⟨v,u,r,s,rfl,hnw,hnu,hI,hJ,hlr,hls,hB⟩
 obtain ⟨a,d,rfl,hO⟩:=hnw.o hI
 obtain ⟨a',d',rfl,hO'⟩:=hnu.o hJ
 exact ⟨a,_,d,a',_,d',rfl,hO,hO',hlr,hls,hB⟩
theorem nOf {w:World} {x:Int} (h0:0<=x) (h1:x < 18446744073709551616) :
  Calls Tryz.prog 38 #[.int .u64 x] w fun e w'=>∃ a k d,e=.returned (.slice a k d)/\NatO w' a k d x/\k<=1/\Below w.heap.size w w':=by
 refine (of_any x w h0 h1).mono ?_
 rintro e w' ⟨v,r,rfl,hnw,hI,hlen,hB⟩
 obtain ⟨a,d,rfl,hO⟩:=hnw.o hI
 exact ⟨a,_,d,rfl,hO,hlen,hB⟩
theorem nNorm {w:World} {ao:Option Addr} {n c:Nat} {x:Int} (h:NatA w ao n c x) (hn:n<=1099511627776) :
  Calls Tryz.prog 80 #[.slice ao n c] w fun e w'=>∃ a k d,e=.returned (.slice a k d)/\NatO w' a k d x/\k<=n/\Below w.heap.size w w':=by
 obtain ⟨b,o,l,h1,h2,h3,h4,rfl⟩:=h.ex
 refine (norm_any ao n c b o l w h1 h2 hn h4).mono ?_
 rintro e w' ⟨rfl,hrow,hB⟩
 exact ⟨_,_,_,rfl,⟨_,_,norm l,norm_length l,Nat.le_refl _,isN_norm h3,hrow.at⟩,by have:=nlen_le l; omega,hB⟩
theorem nBits {w:World} {ao:Option Addr} {n c:Nat} {x:Int} (h:NatA w ao n c x) (hn:n<=1099511627776) :
  Calls Tryz.prog 77 #[.slice ao n c] w fun e w'=>e=.returned (.int .i64 (bitLen x.toNat))/\Below w.heap.size w w':=by
 obtain ⟨b,o,l,h1,h2,h3,h4,rfl⟩:=h.ex
 exact bits_any ao n c b o l w h1 h2 hn h3 h4
theorem nPow {w:World} (n:Nat) (hn:n<=4096) :
  Calls Tryz.prog 144 #[.int .i64 n] w fun e w'=>∃ a k d,e=.returned (.tuple #[.slice a k d,.int .i64 0])/\NatO w' a k d (10 ^ n)/\k<=n + 2/\Below w.heap.size w w':=by
 refine (pow10_any n w hn).mono ?_
 rintro e w' ⟨v,r,rfl,hnw,hI,hlen,hB⟩
 obtain ⟨a,d,rfl,hO⟩:=hnw.o hI
 exact ⟨a,_,d,rfl,hO,hlen,hB⟩
theorem nSame {w:World} {ao ao':Option Addr} {n c n' c':Nat} {x y:Int} (h:NatO w ao n c x) (h':NatO w ao' n' c' y) (hn:n<=4398046511104) (hn':n'<=4398046511104) :
  Calls Tryz.prog 61 #[.slice ao n c,.slice ao' n' c'] w fun e w'=>e=.returned (.bool (decide (x=y)))/\Below w.heap.size w w':=by
 obtain ⟨b,o,l,h1,h2,h3,h4⟩:=h.ex
 obtain ⟨b',o',l',h1',h2',h3',h4'⟩:=h'.ex
 have t:=helpNat ao n c b o ao' n' c' b' o' l l' w h1 h1' hn hn' h4 h4'
 have e:eqB l l'=decide (x=y):=by
  unfold eqB
  by_cases k:x=y
  ·rw [decide_eq_true k,decide_eq_true (isN_unique h3 (k▸h3'))]
  ·rw [decide_eq_false k,decide_eq_false (fun q=>k (by rw [<- h3.2.2,<- h3'.2.2,q]))]
 rw [e] at t
 exact t
theorem bitLen_zero (x:Int) (hx:0<=x):(bitLen x.toNat=0)<->x=0:=by
 constructor
 ·intro h
  by_cases e:x.toNat=0
  ·omega
  ·have:=bitLen_pos e; omega
 ·intro h; subst h; rfl
structure Slot (w:World) (g:Nat) (v:Value) (t:TypeId):Prop where
 blk:w.heap[g]? = some (.cells #[v] t (0,0))
theorem Slot.cell {w:World} {g:Nat} {v:Value} {t:TypeId} (h:Slot w g v t):w.cell? ⟨g,0,none⟩=some v:=cell_of_one h.blk
theorem Slot.free {w:World} {g:Nat} {v:Value} {t:TypeId} (h:Slot w g v t):w.frozen? ⟨g,0,none⟩=false:=free_of_one h.blk
theorem Slot.lt {w:World} {g:Nat} {v:Value} {t:TypeId} (h:Slot w g v t):g < w.heap.size:=lt_of_block h.blk
theorem Slot.keep {w w':World} {g:Nat} {v:Value} {t:TypeId} (h:Slot w g v t) (hb:Below w.heap.size w w'):Slot w' g v t:=⟨by rw [hb.block g h.lt]; exact h.blk⟩
theorem Slot.put {w:World} {g:Nat} {v:Value} {t:TypeId} (h:Slot w g v t) (u:Value):Slot (w.setCell ⟨g,0,none⟩ u) g u t:=⟨one_setCell h.blk⟩
theorem Slot.other {w:World} {g g':Nat} {v:Value} {t:TypeId} (h:Slot w g v t) (hne:g≠g') (u:Value):Slot (w.setCell ⟨g',0,none⟩ u) g v t:=⟨by rw [Below.heap_setCell w _ u g hne]; exact h.blk⟩
theorem slot_new (w:World) (v:Value) (t:TypeId):Slot (w.alloc (.cells #[v] t)) w.heap.size v t:=⟨by
 show (w.heap.push _)[w.heap.size]? = _
 rw [Array.getElem?_push_size]⟩
theorem Slot.alloc {w:World} {g:Nat} {v:Value} {t:TypeId} (h:Slot w g v t) (o:Obj):Slot (w.alloc o) g v t:=h.keep (below_alloc w o)
theorem slot_last2 (w:World) (o:Obj) (v:Value) (t:TypeId):Slot ((w.alloc o).alloc (.cells #[v] t)) (w.heap.size + 1) v t:=by
 have:=slot_new (w.alloc o) v t
 rwa [show (w.alloc o).heap.size=w.heap.size + 1 by simp] at this
theorem slot_last3 (w:World) (o o':Obj) (v:Value) (t:TypeId):Slot (((w.alloc o).alloc o').alloc (.cells #[v] t)) (w.heap.size + 1 + 1) v t:=by
 have:=slot_last2 (w.alloc o) o' v t
 rwa [show (w.alloc o).heap.size=w.heap.size + 1 by simp] at this
theorem below2 (w:World) (o o':Obj):Below w.heap.size w ((w.alloc o).alloc o'):=joinB (below_alloc w o) (below_alloc _ o')
theorem below3 (w:World) (o o' o'':Obj):Below w.heap.size w (((w.alloc o).alloc o').alloc o''):=joinB (below2 w o o') (below_alloc _ o'')
theorem At.put {w:World} {ao:Option Addr} {b o g:Nat} {l:List Int} (k:At w ao b o l) {v:Value} {t:TypeId} (s:Slot w g v t) (hv:∀ x,v≠.int .u64 x) (u:Value):At (w.setCell ⟨g,0,none⟩ u) ao b o l :=
 ⟨k.loc,fun i hi=>by
  have hc:=k.cell i hi
  by_cases e:b=g
  ·subst e
   have h0:o + i=0->False:=fun e0=>by
    rw [e0,s.cell] at hc
    exact hv _ (Option.some.inj hc)
   have hs:=s.blk
   simp only [World.cell?,hs] at hc
   have:o + i < 1:=by
    have:=(Array.getElem?_eq_some_iff.1 hc).1
    simpa using this
   exact (h0 (by omega)).elim
  ·rw [World.cell?_of_block (w:=w) (Below.heap_setCell w _ u b e)]; exact hc⟩
theorem NatO.put {w:World} {ao:Option Addr} {n c g:Nat} {x:Int} (h:NatO w ao n c x) {v:Value} {t:TypeId} (s:Slot w g v t) (hv:∀ x,v≠.int .u64 x) (u:Value):NatO (w.setCell ⟨g,0,none⟩ u) ao n c x:=by
 obtain ⟨b,o,l,h1,h2,h3,h4⟩:=h.ex
 exact ⟨b,o,l,h1,h2,h3,h4.put s hv u⟩
theorem not_int {ao:Option Addr} {n c:Nat}:∀ x,Value.slice ao n c≠.int .u64 x:=fun _ h=>by cases h
theorem belowPut {w W w1:World} (b:Below w.heap.size w W) (h:Below W.heap.size W w1) {g:Nat} (hg:w.heap.size<=g) (u:Value):Below w.heap.size w (w1.setCell ⟨g,0,none⟩ u):=(joinB b h).setCell hg u
theorem Slot.drew {w:World} {g:Nat} {v:Value} {t:TypeId} (h:Slot w g v t):Slot w.drew g v t:=⟨h.blk⟩
theorem NatA.drew {w:World} {ao:Option Addr} {n c:Nat} {x:Int} (h:NatA w ao n c x):NatA w.drew ao n c x:=by
 obtain ⟨b,o,l,h1,h2,h3,h4,h5⟩:=h.ex
 exact ⟨b,o,l,h1,h2,h3,h4.drew,h5⟩
theorem NatO.drew {w:World} {ao:Option Addr} {n c:Nat} {x:Int} (h:NatO w ao n c x):NatO w.drew ao n c x:=by
 obtain ⟨b,o,l,h1,h2,h3,h4⟩:=h.ex
 exact ⟨b,o,l,h1,h2,h3,h4.drew⟩
theorem info_dec:(Tryz.prog.info? 35).map (·.size)=some 1:=by kernel_rfl
theorem under_dec : ∃ f, Tryz.prog.underlying 35 = some (.struct f) := by
  cases h : Tryz.prog.underlying 35 with
  | none => exact absurd h (by have : (Tryz.prog.underlying 35).isSome = true := by kernel_rfl
                               intro e; rw [e] at this; simp at this)
  | some d =>
    have : (match Tryz.prog.underlying 35 with | some (.struct _) => true | _ => false) = true := by kernel_rfl
    rw [h] at this
    cases d <;> first | exact ⟨_, rfl⟩ | simp at this
theorem load_dec {w:World} {g:Nat} {v:Value} {t:TypeId} (s:Slot w g v t):(loadVar 35 ⟨g,0,none⟩).run Tryz.prog w=.ok (.agg #[v]) w:=by
 obtain ⟨f,hu⟩:=under_dec
 exact run_loadVar_row w g t 35 #[v] (0,0) _ s.blk hu rfl info_dec
theorem ret_dec {fn:Func} {p:Tmp} (h:fn.results=#[.cell p 35]) {tmps:Array Value} {w:World} {g:Nat} {v:Value} {t:TypeId} (hp:tmps.getD p undef=.pointer (some ⟨g,0,none⟩)) (s:Slot w g v t) :
  (results fn tmps).run Tryz.prog w=.ok (.agg #[v]) w:=by
 have hp':tmps[p]?.getD undef=.pointer (some ⟨g,0,none⟩):=by simpa using hp
 simp [results,h,hp',asAddr,load_dec s]
theorem ret_dec_tmp {fn:Func} {p u:Tmp} (h:fn.results=#[.cell p 35,.tmp u]) {tmps:Array Value} {w:World} {g:Nat} {v x:Value} {t:TypeId} (hp:tmps.getD p undef=.pointer (some ⟨g,0,none⟩)) (hu:tmps.getD u undef=x) (s:Slot w g v t) :
  (results fn tmps).run Tryz.prog w=.ok (.tuple #[.agg #[v],x]) w:=by
 have hp':tmps[p]?.getD undef=.pointer (some ⟨g,0,none⟩):=by simpa using hp
 have hu':tmps[u]?.getD undef=x:=by simpa using hu
 simp [results,h,hp',hu',asAddr,load_dec s]
end
section
open Go.RowKit Lim
theorem gcd_step (a b:Int) (ha:0<=a) (hb:0<=b):Int.gcd b (a % b)=Int.gcd a b:=by
 obtain ⟨a,rfl⟩:=Int.eq_ofNat_of_zero_le ha
 obtain ⟨b,rfl⟩:=Int.eq_ofNat_of_zero_le hb
 show Nat.gcd b ((a:Int) % (b:Int)).natAbs=Nat.gcd a b
 rw [show ((a:Int) % (b:Int)).natAbs=a % b from rfl,Nat.gcd_comm b,Nat.gcd_comm a b]
 exact (Nat.gcd_rec b a).symm
theorem gcdSmall_any (x y:Int) (w:World) (hx:0<=x) (hx1:x < 18446744073709551616) (hy:0<=y) (hy1:y < 18446744073709551616) :
  Calls Tryz.prog 130 #[.int .u64 x,.int .u64 y] w fun e w'=>e=.returned (.int .u64 (Int.gcd x y:Nat))/\∃ n,w'=w.drewN n:=by
 go_enter Tryz.func130,Tryz.ntmps130
 go_wp2
 go_loopw [0,1] (fun tx ty wr=>∃ a b:Int,tx=.int .u64 a/\ty=.int .u64 b/\0<=a/\a < 18446744073709551616/\0<=b/\b < 18446744073709551616/\Hid (Int.gcd a b=Int.gcd x y)/\∃ n,wr=w.drewN n) (fun _ ty _=>(intOf ty).toNat)
 case atStart=>exact ⟨x,y,rfl,rfl,hx,hx1,hy,hy1,rfl,0,rfl⟩
 case round =>
  obtain ⟨a,b,rfl,rfl,a0,a1,b0,b1,hg,n,rfl⟩:=hrel
  by_cases hb:b=0
  ·subst hb
   go_wp2
   go_ret
   refine ⟨ret1 ?_,n,rfl⟩
   have:=hg.out
   rw [Int.gcd_zero_right] at this
   omega
  ·have hb':(b != 0)=true:=by rw [bne_iff_ne]; exact hb
   have hb2:(b == 0)=false:=beq_eq_false_iff_ne.2 hb
   have hbp:0 < b:=by omega
   have hm0:=Int.emod_nonneg a hb
   have hm1:=Int.emod_lt_of_pos a hbp
   go_wp2_with fail
   go_quiet (fail)
   go_wp2
   go_roundw
   case rel=>exact ⟨b,a % b,rfl,rfl,b0,b1,hm0,by omega,by show _=_; rw [<- hg.out]; exact gcd_step a b a0 b0,_,World.drewN_drewN _ _ _⟩
   case measure=>simp [intOf]; omega
theorem Row.keep {w w':World} {g:Nat} {l:List Int} (h:Row w g l) (hb:Below w.heap.size w w'):Row w' g l:=by
 unfold Row at *
 rw [hb.block g (Array.getElem?_eq_some_iff.1 h).1]; exact h
theorem gcd_one {x y d left:Int} (hx:0<=x) (hd:0 < d) (hy:y=d) (hl:left=x % d):(Int.gcd d left:Int)=Int.gcd x y:=by
 subst hy hl; rw [gcd_step x y hx (by omega)]
theorem gcd_bound (d left:Int) (hd:0 < d) (h1:d < 18446744073709551616):((Int.gcd d left:Nat):Int) < 18446744073709551616:=by
 have:Int.gcd d left<=d.natAbs:=Nat.gcd_le_left _ (by omega)
 omega
end
end Go.Proofs.YtlbndpkdkdgggaaGreatDoor
