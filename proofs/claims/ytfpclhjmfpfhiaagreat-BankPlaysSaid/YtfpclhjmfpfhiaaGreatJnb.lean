/- Several texts, joined: RefD, DivL, Guess, Mul, DivLong, DivM, Pow, Digits, Parse, Nm. -/
import Derived.Test.YtfpclhjmfpfhiaaGreatJna
import Derived.Deep.RegionLaw
import Derived.Deep.RegionWith
import Derived.Deep.QuietTactic
import Derived.BigQuiet
import Derived.ScopeJumps
import Derived.OneCell
namespace Go.Proofs.YtfpclhjmfpfhiaaGreat
open Go.RowKit Lim
set_option maxHeartbeats 400000 in
theorem refTrim_any (ao:Option Addr) (n c:Nat) (l:List Int) (w:World) (hl:l.length=n) (hc:n<=c) (hb:n<=4398046511104) (hcell:Cells w ao l) :
  Calls Tryz.prog 112 #[.slice ao n c] w fun e w'=>e=.returned (.slice ao (nlen l) c)/\w'=w:=by
 go_enter Tryz.func112,Tryz.ntmps112
 go_wp2
 go_loop [3] (fun t=>∃ k:Nat,k<=n/\t=.int .i64 k/\Hid (∀ i,k<=i->nth l i=0)) (fun t=>(intOf t).toNat)
 case atStart=>exact ⟨n,Nat.le_refl _,rfl,fun i hi=>nth_ge (by omega)⟩
 case round =>
  obtain ⟨k,hk,rfl,hz⟩:=hrel
  by_cases hk0:0 < k
  ·rcases hcell with e | ⟨b,o,rfl,hcell⟩
   ·subst e; simp at hl; omega
   ·have hcx:=hcell (k - 1) (by omega)
    have hcy:w.cell? ⟨b,o + k - 1,none⟩=some (.int .u64 (nth l (k - 1))):=by rw [<- hcx]; congr 2; omega
    clear hcell
    go_wp2
    ·go_round
     case rel=>exact ⟨k - 1,by omega,by go_num,fun i hi=>by
      by_cases e:i=k - 1
      ·subst e; exact beq_iff_eq.1 (by assumption)
      ·exact hz.out i (by omega)⟩
     case measure=>simp [intOf]; omega
    ·go_ret
     rw [nlen_of (k:=k) (by omega) hz.out (fun _=>beq_eq_false_iff_ne.1 (by assumption))]
     exact ⟨rfl,rfl⟩
  ·go_wp2
   go_ret
   rw [nlen_of (k:=k) (by omega) hz.out (fun _=>by omega)]
   exact ⟨rfl,rfl⟩
def v32:List Int->Int
 | []=>0
 | x :: l=>x + 4294967296 * v32 l
def Dig32 (l:List Int):Prop:=∀ x∈l,0<=x/\x < 4294967296
theorem Dig32.words {l:List Int} (h:Dig32 l):Words l:=fun x hx=>by have:=h x hx; omega
theorem Dig32.nth {l:List Int} (h:Dig32 l) (i:Nat):0<=nth l i/\nth l i < 4294967296:=by
 by_cases hi:i < l.length
 ·exact h _ (nth_mem hi)
 ·rw [nth_ge (by omega)]; decide
theorem Dig32.take {l:List Int} (h:Dig32 l) (k:Nat):Dig32 (l.take k):=fun x hx=>h x (List.mem_of_mem_take hx)
theorem v32_append (a b:List Int):v32 (a ++ b)=v32 a + 4294967296 ^ a.length * v32 b:=by
 induction a with
 | nil=>simp [v32]
 | cons x a ih=>simp only [List.cons_append,v32,ih,List.length_cons,Int.pow_succ]; grind
theorem v32_zeros {l:List Int} (h:∀ i,nth l i=0):v32 l=0:=by
 induction l with
 | nil=>rfl
 | cons x l ih =>
  have h0:=h 0; rw [nth_zero] at h0
  rw [v32,h0,ih fun i=>by have:=h (i + 1); rwa [nth_succ] at this]; rfl
theorem v32_norm (l:List Int):v32 (norm l)=v32 l:=by
 conv=>rhs; rw [<- List.take_append_drop (nlen l) l]
 rw [v32_append,v32_zeros (l:=l.drop (nlen l)) fun i=>by rw [nth_drop]; exact nlen_above (by omega)]
 simp [norm]
theorem v32_bound {l:List Int} (h:Dig32 l):0<=v32 l/\v32 l < 4294967296 ^ l.length:=by
 induction l with
 | nil=>simp [v32]
 | cons x l ih =>
  have h1:=h x List.mem_cons_self
  have h2:=ih fun y hy=>h y (List.mem_cons_of_mem _ hy)
  simp only [v32,List.length_cons,Int.pow_succ]; omega
def halves:List Int->List Int
 | []=>[]
 | x :: l=>x % 4294967296 :: x / 4294967296 :: halves l
theorem halves_length (l:List Int):(halves l).length=2 * l.length:=by
 induction l with
 | nil=>rfl
 | cons x l ih=>simp [halves,ih]; omega
theorem halves_append (a b:List Int):halves (a ++ b)=halves a ++ halves b:=by
 induction a with
 | nil=>rfl
 | cons x a ih=>simp [halves,ih]
theorem halves_dig {l:List Int} (h:Words l):Dig32 (halves l):=by
 induction l with
 | nil=>intro x hx; simp [halves] at hx
 | cons y l ih =>
  intro x hx
  have hy:=h.head
  simp only [halves,List.mem_cons] at hx
  rcases hx with e | e | e
  ·subst e; omega
  ·subst e; omega
  ·exact ih h.tail x e
theorem halves_val {l:List Int}:v32 (halves l)=val l:=by
 induction l with
 | nil=>rfl
 | cons x l ih=>simp only [halves,v32,ih,val]; omega
theorem under_u64r:Tryz.prog.underlying 48=some (.slice 31):=by kernel_rfl
theorem wpList_makeR {w:World} {ops:Array Oper} {rest:List Oper} {o:Oper} {a:Act} {Q:Exit->Act->World->Prop}
  (hg:o.guard=none) (l c:Operand) (hop:o.op=Op.makeSlice 48 l c) (n m:Nat) (L C:Int) (hl:a.eval l=.int .i64 L) (hc:a.eval c=.int .i64 C) (hL:L=(n:Int)) (hC:C=(m:Int)) (hnm:n<=m) (hn:m<=17592186044416)
  (hK:∀ w',Row w' w.heap.size (List.replicate m 0)->Below w.heap.size w w'->w'.heap.size=w.heap.size + 1->wpList Tryz.prog ops Q rest (a.put o.dst (.slice (some ⟨w.heap.size,0,none⟩) n m)) w') :
  wpList Tryz.prog ops Q (o :: rest) a w:=by
 obtain ⟨i,hi,hz,hs,hb⟩:=info_parts info_u64
 refine wpList_plain hg fun K hK' => ?_
 have hrun:=run_make (P:=Tryz.prog) w 48 31 i (.int .u64 0) under_u64r hi hz .i64 .i64 (n:Int) (m:Int) (by omega) (by omega) (by rw [hb]; omega) (by omega)
 subst hL
 subst hC
 unfold Oper.wp
 simp only [execOp,hop,hl,hc]
 simp [hrun,Result.andThen]
 refine hK' _ _ (hK _ ?_ ?_ ?_)
 ·show (w.heap.push _)[w.heap.size]? = _
  rw [Array.getElem?_push_size,hs,Nat.mul_one,made_u64]
 ·exact (Below.refl _ _).alloc (Nat.le_refl _) _
 ·simp
theorem Row.cell {w:World} {g:Nat} {l:List Int} (h:Row w g l) {i:Nat} (hi:i < l.length):w.cell? ⟨g,i,none⟩=some (.int .u64 (nth l i)):=by
 have:=h.at.cell i hi; rwa [Nat.zero_add] at this
theorem Row.set {w:World} {g:Nat} {l:List Int} (h:Row w g l) (i:Nat) (x:Int):Row (w.setCell ⟨g,i,none⟩ (.int .u64 x)) g (l.set i x):=by
 unfold Row at *
 simp only [World.setCell,Array.getElem?_modify,if_true,h]
 simp
theorem Row.set2 {w:World} {g:Nat} {l:List Int} (h:Row w g l) (i:Nat) (x y:Int):Row (w.setCells g i [.int .u64 x,.int .u64 y]) g ((l.set i x).set (i + 1) y):=by
 show Row ((w.setCell ⟨g,i,none⟩ (.int .u64 x)).setCell ⟨g,i + 1,none⟩ (.int .u64 y)) g _
 exact (h.set i x).set (i + 1) y
theorem set2_app (a:List Int) (x y u v:Int) (b:List Int):((a ++ u :: v :: b).set a.length x).set (a.length + 1) y=a ++ x :: y :: b:=by
 rw [List.set_append_right _ _ (Nat.le_refl _),Nat.sub_self,List.set_cons_zero,List.set_append_right _ _ (by omega),Nat.add_sub_cancel_left,List.set_cons_succ,List.set_cons_zero]
set_option maxHeartbeats 2000000 in
set_option maxRecDepth 100000 in
theorem digits_any (ao:Option Addr) (n c b o:Nat) (l:List Int) (w:World) (hl:l.length=n) (hbig:n<=274877906944) (wl:Words l) (ha:At w ao b o l) :
  Calls Tryz.prog 71 #[.slice ao n c] w fun e w'=>∃ v d,e=.returned v/\NewV w w' v d/\Dig32 d/\nlen d=d.length/\v32 d=val l/\d.length<=2 * n/\Below w.heap.size w w':=by
 obtain ⟨i0,hi,hz0,hz1,hz2⟩:=info_parts info_u64
 go_enter Tryz.func71,Tryz.ntmps71
 go_wp2_with (at_make; refine wpList_makeR rfl _ _ rfl 0 (2 * n) _ _ rfl rfl rfl (by omega) (by omega) (by omega) ?_; intro w1 hrow hbel hsz)
 have ha1:=ha.keep hbel
 have hlt1:=hrow.lt
 go_loopw [3,4] (fun tz ti wr=>∃ k:Nat,k<=n/\ti=.int .i64 k/\tz=.slice (some ⟨w.heap.size,0,none⟩) (2 * k) (2 * n)/\Row wr w.heap.size (halves (l.take k) ++ List.replicate (2 * (n - k)) 0)/\Below w.heap.size w wr) (fun _ ti _=>n - (intOf ti).toNat)
 case atStart=>exact ⟨0,Nat.zero_le _,rfl,rfl,by simpa [halves] using hrow,hbel⟩
 case round =>
  clear hrow hbel ha1
  obtain ⟨k,hk,rfl,rfl,hrow,hbe⟩:=hrel
  by_cases hlt:k < n
  ·rcases ha.loc with e | rfl
   ·subst e; simp at hl; omega
   have hat:=ha.keep hbe
   have hcx:=hat.cell k (by omega)
   have hx:=wl.nth k
   have hltr:=hrow.lt
   have hlen:(halves (l.take k)).length=2 * k:=by rw [halves_length,List.length_take]; omega
   have hrest:List.replicate (2 * (n - k)) (0:Int)=0 :: 0 :: List.replicate (2 * (n - (k + 1))) 0:=by
    rw [show 2 * (n - k)=2 * (n - (k + 1)) + 1 + 1 from by omega]; rfl
   rw [hrest] at hrow
   have hstep:halves (l.take (k + 1))=halves (l.take k) ++ [nth l k % 4294967296,nth l k / 4294967296]:=by
    rw [take_succ_nth (by omega),halves_append]; rfl
   have hrow1:=fun ob:Obj=>(hrow.keep (below_alloc wr ob)).set2 (2 * k) (nth l k % 4294967296) (nth l k / 4294967296)
   have HR:Hid (∀ ob:Obj,Row ((wr.alloc ob).setCells w.heap.size (2 * k) [.int .u64 (nth l k % 4294967296),.int .u64 (nth l k / 4294967296)]) w.heap.size (halves (l.take (k + 1)) ++ List.replicate (2 * (n - (k + 1))) 0)):=by
    intro ob
    have:=hrow1 ob
    rw [<- hlen,set2_app] at this
    rw [hstep,List.append_assoc]
    rw [hlen] at this
    exact this
   have hcellA:=hrow.cell (i:=2 * k) (by simp [hlen])
   have hcellB:=hrow.cell (i:=2 * k + 1) (by simp [hlen])
   have hand:=and32 (nth l k) hx.1 hx.2
   clear hstep hrest hrow1
   generalize nth l k=x at *
   have s1:Hid (∀ j u,[Value.int .u64 (x % 4294967296),.int .u64 (x / 4294967296)][j]? = some u->(wr.alloc (.cells #[.int .u64 (x % 4294967296),.int .u64 (x / 4294967296)] 31)).cell? ((⟨wr.heap.size,0,none⟩:Addr).add j)=some u):=two_new _ _ _
   have s2:Hid (∀ u∈[Value.int .u64 (x % 4294967296),.int .u64 (x / 4294967296)],u.oneCell'=true):=fun u hu=>by
    simp at hu
    rcases hu with e | e<;>(subst e; rfl)
   have s3:Hid (∀ j,j < [Value.int .u64 (x % 4294967296),.int .u64 (x / 4294967296)].length->((wr.alloc (.cells #[.int .u64 (x % 4294967296),.int .u64 (x / 4294967296)] 31)).cell? ⟨w.heap.size,0 + 2 * k * 1 + j,none⟩).isSome=true/\(wr.alloc (.cells #[.int .u64 (x % 4294967296),.int .u64 (x / 4294967296)] 31)).frozen? ⟨w.heap.size,0 + 2 * k * 1 + j,none⟩=false):=by
    intro j hj
    have hr:=hrow.keep (below_alloc wr (.cells #[.int .u64 (x % 4294967296),.int .u64 (x / 4294967296)] 31))
    have hj2:j < 2:=by simpa using hj
    rw [Nat.zero_add,Nat.mul_one]
    exact ⟨by rw [hr.cell (by simp [hlen]; omega)]; rfl,by have:=hr.free 0 (2 * k + j + 1) (2 * k + j) (by omega); rwa [Nat.zero_add] at this⟩
   have hbeA:=(show Hid _ from hbe)
   clear hrow hcellA hcellB hbe hat
   go_wp2_with fail
   go_region_law (refine step_append_room rfl (.tmp 15) (.tmp 26) 48 rfl 31 i0 1 under_u64r hi hz1 w.heap.size 0 (2 * k) (2 * n) (by simp [Act.eval]) ⟨wr.heap.size,0,none⟩ 2 2 [.int .u64 (x % 4294967296),.int .u64 (x / 4294967296)] (by simp [Act.eval]) rfl s1.out s2.out (by omega) s3.out ?_)
   go_wp2
   all_goals
    have hbB:=((hbeA.out.alloc (by omega) (.cells #[.int .u64 (x % 4294967296),.int .u64 (x / 4294967296)] 31)).setCell (p:=⟨w.heap.size,2 * k,none⟩) (Nat.le_refl _) (.int .u64 (x % 4294967296))).setCell (p:=⟨w.heap.size,2 * k + 1,none⟩) (Nat.le_refl _) (.int .u64 (x / 4294967296))
    refine ⟨⟨k + 1,by omega,by go_num,by rw [show 2 * (k + 1)=2 * k + 2 from by omega],?_,?_⟩,by simp [intOf]; omega⟩
    ·exact HR.out _
    ·exact ⟨hbB.os,hbB.tape,hbB.output,hbB.size,hbB.block⟩
  ·have hkn:k=n:=by omega
   subst hkn
   rw [Nat.sub_self,Nat.mul_zero,List.replicate_zero,List.append_nil,List.take_of_length_le (by omega)] at hrow
   have hlen:=halves_length l
   rw [hl] at hlen
   have t3:=refTrim_any (some ⟨w.heap.size,0,none⟩) (2 * k) (2 * k) (halves l) wr hlen (Nat.le_refl _) (by omega) hrow.at.cells
   have hz1:=nlen_le (halves l)
   have hz2:=norm_length (halves l)
   have hz3:=hrow.at.sub (nlen (halves l))
   have hz4:=nlen_norm (halves l)
   have hz5:=v32_norm (halves l)
   have hz6:Dig32 (norm (halves l)):=(halves_dig wl).take _
   have hfz:=hrow.free 0 (2 * k)
   rw [show (halves l).take (nlen (halves l))=norm (halves l) from rfl] at hz3
   rw [halves_val] at hz5
   clear hrow
   generalize nlen (halves l)=K at *
   generalize norm (halves l)=R at *
   have HV:=(show Hid _ from hz5)
   clear hz5
   go_wp2_with fail
   refine t3.mono ?_
   rintro e w6 ⟨rfl,rfl⟩
   go_wp2
   go_ret
   exact ⟨_,R,rfl,NewV.of hz2.symm (by omega) (Nat.le_refl _) hz3 (fun i hi=>hfz i (by omega)),hz6,hz4,HV.out,by omega,hbe⟩
structure NumInv (d:List Int) (m k:Nat) (lz:List Int):Prop where
 len:lz.length=m
 words:Words lz
 val:Lim.val lz=v32 (d.take k)
theorem pow32_parts (k:Nat):(4294967296:Int) ^ k=18446744073709551616 ^ (k / 2) * 2 ^ (32 * (k % 2)):=by
 have e:(18446744073709551616:Int)=4294967296 ^ 2:=by decide
 have e2:(2:Int) ^ (32 * (k % 2))=4294967296 ^ (k % 2):=by rw [Int.pow_mul]; rfl
 rw [e,e2,<- Int.pow_mul,<- Int.pow_add]; congr 1; omega
theorem num_step {d lz:List Int} {m k:Nat} (hd:Dig32 d) (hm:(d.length + 1) / 2=m) (h:NumInv d m k lz) (hk:k < d.length) :
  bits .or .u64 (nth lz (k / 2)) (IntKind.u64.wrap (nth d k * 2 ^ (32 * (k % 2))))=nth lz (k / 2) + nth d k * 2 ^ (32 * (k % 2)) /\
  NumInv d m (k + 1) (lz.set (k / 2) (nth lz (k / 2) + nth d k * 2 ^ (32 * (k % 2)))):=by
 have hl:=h.len
 have hx:=hd.nth k
 have hbd:=v32_bound (hd.take k)
 rw [List.length_take,Nat.min_eq_left (by omega)] at hbd
 have hv:=h.val
 have hz:=h.words.nth (k / 2)
 have hlt:=limb_lt h.words (i:=k / 2) (by omega) (P:=2 ^ (32 * (k % 2))) (by rw [<- pow32_parts,hv]; exact hbd.2)
 have hS:(0:Int) < 2 ^ (32 * (k % 2)):=Int.pow_pos (by decide)
 have hT:(2:Int) ^ (32 * (k % 2)) * 4294967296<=18446744073709551616:=by
  rcases (show k % 2=0\/k % 2=1 by omega) with e | e<;>rw [e]<;>decide
 have hx1:0<=nth d k * 2 ^ (32 * (k % 2)):=Int.mul_nonneg hx.1 (Int.le_of_lt hS)
 have hx2:nth d k * 2 ^ (32 * (k % 2))<=4294967295 * 2 ^ (32 * (k % 2)):=Int.mul_le_mul_of_nonneg_right (by omega) (Int.le_of_lt hS)
 constructor
 ·rw [IntKind.wrap_u64,Int.emod_eq_of_lt hx1 (by omega)]
  rw [u64_or _ _ hz.1 hz.2 hx1 (by omega),Nat.or_comm,<- u64_or _ _ hx1 (by omega) hz.1 hz.2]
  rw [or_add _ _ (32 * (k % 2)) _ rfl hx.1 (by omega) hz.1 hlt hz.2,Int.add_comm]
 ·refine ⟨by simp [hl],h.words.set _ (by omega) (by omega),?_⟩
  rw [val_set (by omega),hv,take_succ_nth hk,v32_append,List.length_take,Nat.min_eq_left (by omega),pow32_parts k]
  simp only [v32]
  grind
theorem pow32_mono {a b:Nat} (h:a<=b):(4294967296:Int) ^ a<=4294967296 ^ b:=by
 have:(4294967296:Nat) ^ a<=4294967296 ^ b:=Nat.pow_le_pow_right (by decide) h
 have e1:((4294967296 ^ a:Nat):Int)=(4294967296:Int) ^ a:=by rw [Int.natCast_pow]; rfl
 have e2:((4294967296 ^ b:Nat):Int)=(4294967296:Int) ^ b:=by rw [Int.natCast_pow]; rfl
 omega
theorem v32_ge {l:List Int} (h:Dig32 l) (h0:0 < l.length) (h1:nth l (l.length - 1)≠0):4294967296 ^ (l.length - 1)<=v32 l:=by
 have hsp:l=l.take (l.length - 1) ++ [nth l (l.length - 1)]:=by
  rw [<- take_succ_nth (by omega),show l.length - 1 + 1=l.length from by omega,List.take_of_length_le (Nat.le_refl _)]
 have hx:=h.nth (l.length - 1)
 have hb:=v32_bound (h.take (l.length - 1))
 have hv:v32 l=v32 (l.take (l.length - 1)) + 4294967296 ^ (l.length - 1) * nth l (l.length - 1):=by
  conv=>lhs; rw [hsp]
  rw [v32_append,List.length_take,Nat.min_eq_left (by omega)]; simp [v32]
 have hp:(0:Int) < 4294967296 ^ (l.length - 1):=Int.pow_pos (by decide)
 have:(4294967296:Int) ^ (l.length - 1) * 1<=4294967296 ^ (l.length - 1) * nth l (l.length - 1):=Int.mul_le_mul_of_nonneg_left (by omega) (Int.le_of_lt hp)
 omega
set_option maxHeartbeats 2000000 in
set_option maxRecDepth 100000 in
theorem number_any (ao:Option Addr) (n c b o:Nat) (d:List Int) (w:World) (hl:d.length=n) (hc:n<=c) (hbig:n<=1099511627776) (hd:Dig32 d) (ha:At w ao b o d) :
  Calls Tryz.prog 72 #[.slice ao n c] w fun e w'=>∃ v r,e=.returned v/\NewV w w' v r/\IsN r (v32 d)/\r.length<=n/\Below w.heap.size w w':=by
 have hn:=nlen_le d
 have t1:=refTrim_any ao n c d w hl hc (by omega) ha.cells
 have hs:=ha.sub (nlen d)
 have hnl:=norm_length d
 have hdn:Dig32 (norm d):=hd.take _
 have hvn:=v32_norm d
 have hlast:nlen d≠0->nth (norm d) (nlen d - 1)≠0:=fun h=>by rw [norm_nth]; exact nlen_last h
 have hne:norm d=[]\/b≠w.heap.size:=by
  rcases hs.lt with e | e
  ·exact .inl e
  ·exact .inr (by omega)
 rw [show d.take (nlen d)=norm d from rfl] at hs
 rw [<- hvn]
 generalize nlen d=N at *
 generalize norm d=D at *
 clear hvn ha hd
 obtain ⟨m,hm⟩:∃ m:Nat,((N:Int) + 1) / 2=m:=⟨(N + 1) / 2,by omega⟩
 go_enter Tryz.func72,Tryz.ntmps72
 go_wp2_with fail
 refine t1.mono ?_
 rintro e w1 ⟨rfl,rfl⟩
 clear t1
 go_wp2_with (at_make; refine wpList_makeN rfl _ _ rfl m _ _ rfl rfl (by omega) (by omega) (by omega) ?_; intro w2 hrow hbel hsz)
 have hs2:=hs.keep hbel
 clear hs
 go_loopw [4] (fun ti wr=>∃ (k:Nat) (lz:List Int),k<=N/\ti=.int .i64 k/\NumInv D m k lz/\At wr (some ⟨w1.heap.size,0,none⟩) w1.heap.size 0 lz/\Wr w1.heap.size 0 m w2 wr) (fun ti _=>N - (intOf ti).toNat)
 case atStart=>exact ⟨0,_,Nat.zero_le _,rfl,⟨by simp,words_zero _,by rw [val_zeros fun i=>by simp [nth,List.getElem?_replicate]; split<;>rfl]; rfl⟩,hrow.at,Wr.refl _ _ _ _⟩
 case round =>
  obtain ⟨k,lz,hk,rfl,hinv,hat,hwr⟩:=hrel
  have hlen:=hinv.len
  by_cases hlt:k < N
  ·obtain ⟨i,hi⟩:∃ i:Nat,(k:Int) / 2=i:=⟨k / 2,by omega⟩
   obtain ⟨j,hj⟩:∃ j:Nat,(k:Int) % 2=j:=⟨k % 2,by omega⟩
   have hi1:(i:Int) < m:=by omega
   have hk1:(k:Int) < N:=by omega
   have hj1:j < 2:=by omega
   rcases hs2.loc with e | rfl
   ·subst e; simp at hnl; omega
   have hcz:=hat.cell i (by omega)
   have hcb:=(hs2.wr hwr hne).cell k (by omega)
   have hfr:=hwr.free (hrow.free 0 m) i (by omega)
   rw [Nat.zero_add] at hcz hfr
   have hst:=num_step hdn (m:=m) (by omega) hinv (by omega)
   rw [show k / 2=i from by omega,show k % 2=j from by omega] at hst
   obtain ⟨hst1,hst2⟩:=hst
   have HS:=(show Hid _ from hst2)
   have HA:=(show Hid _ from hat)
   have HW:=(show Hid _ from hwr)
   have hxx:=hdn.nth k
   clear hst2 hat hwr hinv hrow hs2 hdn
   generalize nth lz i=z at *
   generalize nth D k=x at *
   go_wp2_with fail
   go_region
   go_wp2
   refine ⟨⟨k + 1,_,by omega,by go_num,HS.out,?_,?_⟩,by simp [intOf]; omega⟩
   ·have:=(HA.out.setCell (i:=i) (by omega) (z + x * 2 ^ (32 * j))).drew
    rwa [Nat.zero_add] at this
   ·exact (HW.out.setCell (by omega) (by omega) _).drew
  ·have hkn:k=N:=by omega
   subst hkn
   have hv:=hinv.val
   rw [List.take_of_length_le (by omega)] at hv
   have hfz:=hwr.free (hrow.free 0 m)
   have HB:=hbel.trans (hwr.below (Nat.le_refl _))
   have hnm:nlen lz=lz.length:=by
    have h1:=nlen_le lz
    by_cases c:nlen lz < lz.length
    ·have h2:=val_lt_nlen hinv.words
     have h3:=pow_mono (show nlen lz<=m - 1 by omega)
     have hk0:k≠0:=by omega
     have h5:=v32_ge hdn (by omega) (by rw [hnl]; exact hlast hk0)
     have h4:(18446744073709551616:Int) ^ (m - 1)<=4294967296 ^ (D.length - 1):=by
      rw [show (18446744073709551616:Int)=4294967296 ^ 2 from by decide,<- Int.pow_mul]
      exact pow32_mono (by omega)
     rw [hv] at h2
     omega
    ·omega
   have HI:IsN lz (v32 D):=⟨hinv.words,hnm,hv⟩
   clear hinv hrow hwr hbel hs2 hv hnm
   go_wp2
   go_ret
   exact ⟨_,lz,rfl,NewV.of hlen.symm (Nat.le_refl _) (Nat.le_refl _) hat hfz,HI,by omega,HB⟩
end Go.Proofs.YtfpclhjmfpfhiaaGreat
namespace Go.Proofs.YtfpclhjmfpfhiaaGreat
open Go.RowKit Lim
structure LowInv (lz:List Int) (S:Int) (h:Nat) (lz1:List Int):Prop where
 len:lz1.length=lz.length
 words:Words lz1
 low:∀ i,i < h->nth lz1 i=nth lz i
 val:Lim.val (lz1.drop h)=Lim.val (lz.drop h) / S
theorem top_mod {l:List Int} (S T:Int) (h:S * T=18446744073709551616) (k:Nat):val (l.drop k) % S=nth l k % S:=by
 by_cases hk:k < l.length
 ·rw [val_drop hk,<- h,Int.mul_assoc,Int.add_mul_emod_self_left]
 ·rw [List.drop_of_length_le (by omega),nth_ge (by omega)]; rfl
theorem LowInv.step {lz lz1:List Int} {S T z':Int} {h:Nat} (hS:0 < S) (hST:S * T=18446744073709551616) (hv:LowInv lz S (h + 1) lz1) (hh:h < lz.length) (z0:0<=z') (z1:z' < 18446744073709551616)
  (e:z'=nth lz h / S + T * (nth lz (h + 1) % S)):LowInv lz S h (lz1.set h z'):=by
 have hl:=hv.len
 refine ⟨by simp [hl],hv.words.set h z0 z1,fun i hi=>by rw [nth_set (by omega),if_neg (by omega)]; exact hv.low i (by omega),?_⟩
 rw [val_drop (by simp; omega),nth_set (by omega),if_pos rfl,List.drop_set,if_pos (by omega),hv.val,val_drop hh,e,<- top_mod S T hST (h + 1)]
 generalize Lim.val (lz.drop (h + 1))=Y
 have e1:nth lz h + 18446744073709551616 * Y=nth lz h + S * (T * Y):=by rw [<- hST]; grind
 rw [e1,Int.add_mul_ediv_left _ _ (by omega)]
 have e2:=Int.mul_ediv_add_emod Y S
 have e3:T * Y=T * (S * (Y / S) + Y % S):=by rw [e2]
 rw [e3,<- hST]
 grind
end Go.Proofs.YtfpclhjmfpfhiaaGreat
namespace Go.Proofs.YtfpclhjmfpfhiaaGreat
open Go.RowKit Lim
end Go.Proofs.YtfpclhjmfpfhiaaGreat
namespace Go.Proofs.YtfpclhjmfpfhiaaGreat
open Go.RowKit Lim
theorem mul_room {L L' lz:List Int} {k:Nat} (hL:Words L) (hL':Words L') (hz:Words lz) (hk:k < L.length) (hl:lz.length=L.length + L'.length) (hv:val lz=val (L.take k) * val L') :
  0<=val ((lz.drop k).take (L'.length + 1)) + val L' * nth L k/\val ((lz.drop k).take (L'.length + 1)) + val L' * nth L k < 18446744073709551616 ^ (L'.length + 1):=by
 have h1:=val_lt (hL.take k)
 have h2:=val_lt hL'
 have h3:=val_nonneg (hL.take k)
 have h4:=val_nonneg hL'
 have h5:=val_nonneg (hz.take k)
 have h6:=val_nonneg ((hz.drop k).take (L'.length + 1))
 have h7:=val_nonneg ((hz.drop k).drop (L'.length + 1))
 have h8:=hL.nth k
 rw [List.length_take,Nat.min_eq_left (by omega)] at h1
 have e1:=val_split lz k (by omega)
 have e2:=val_split (lz.drop k) (L'.length + 1) (by simp; omega)
 have hp:=pow_pos k
 have hq:=pow_pos L'.length
 have hr:=pow_pos (L'.length + 1)
 have m1:val (L.take k) * val L'<=18446744073709551616 ^ k * val L':=Int.mul_le_mul_of_nonneg_right (by omega) h4
 have m2:(18446744073709551616:Int) ^ k * val (lz.drop k)<=18446744073709551616 ^ k * val L':=by omega
 have m3:val (lz.drop k)<=val L':=Int.le_of_mul_le_mul_left m2 hp
 have m4:0<=18446744073709551616 ^ (L'.length + 1) * val ((lz.drop k).drop (L'.length + 1)):=Int.mul_nonneg (Int.le_of_lt hr) h7
 have m5:val L' * nth L k<=val L' * 18446744073709551615:=Int.mul_le_mul_of_nonneg_left (by omega) h4
 have m6:0<=val L' * nth L k:=Int.mul_nonneg h4 h8.1
 refine ⟨by omega,?_⟩
 rw [Int.pow_succ]
 omega
structure MulInv (L L' lz:List Int) (k:Nat):Prop where
 len:lz.length=L.length + L'.length
 words:Words lz
 val:Lim.val lz=Lim.val (L.take k) * Lim.val L'
theorem MulInv.step {L L' lz lw:List Int} {k:Nat} (hL:Words L) (hL':Words L') (hk:k < L.length) (h:MulInv L L' lz k) (hw:Words lw) (hlw:lw.length=L'.length + 1)
  (hv:Lim.val lw=(Lim.val ((lz.drop k).take (L'.length + 1)) + Lim.val L' * nth L k) % 18446744073709551616 ^ (L'.length + 1)):MulInv L L' (patch lz k lw) (k + 1):=by
 have hroom:=mul_room hL hL' h.words hk h.len h.val
 rw [Int.emod_eq_of_lt hroom.1 hroom.2] at hv
 have hl:=h.len
 refine ⟨by rw [patch_length (by omega)]; exact h.len,patch_words h.words hw,?_⟩
 rw [patch_val (by omega),hlw,hv,h.val,val_take_succ hk]
 grind
end Go.Proofs.YtfpclhjmfpfhiaaGreat
namespace Go.Proofs.YtfpclhjmfpfhiaaGreat
open Go.RowKit Lim
structure DLInv (lu:List Int) (V:Int) (q0 k m:Nat) (lq lu1:List Int):Prop where
 lenq:lq.length=q0
 lenu:lu1.length=q0 + (k + 2)
 wq:Words lq
 wu:Words lu1
 eq:val lu=18446744073709551616 ^ m * val (lq.drop m) * V + val lu1
 lt:val lu1 < V * 18446744073709551616 ^ m
theorem DLInv.window {lu:List Int} {V:Int} {q0 k a:Nat} {lq lu1:List Int} (h:DLInv lu V q0 k (a + 1) lq lu1) (ha:a < q0) (hV:V < 18446744073709551616 ^ (k + 2)) :
  val lu1=val (lu1.take a) + 18446744073709551616 ^ a * val ((lu1.drop a).take (k + 3))/\val ((lu1.drop a).take (k + 3)) < V * 18446744073709551616:=by
 have hl:=h.lenu
 have e1:=val_split lu1 a (by omega)
 have e2:=val_split (lu1.drop a) (k + 3) (by simp; omega)
 have h0:=val_nonneg (h.wu.take a)
 have h1:=val_nonneg ((h.wu.drop a).take (k + 3))
 have h2:=val_nonneg ((h.wu.drop a).drop (k + 3))
 have hlt:=h.lt
 have hp:=pow_pos a
 have hz:val ((lu1.drop a).drop (k + 3))=0:=by
  by_cases c:val ((lu1.drop a).drop (k + 3))=0
  ·exact c
  ·have k1:18446744073709551616 ^ (k + 3) * 1<=18446744073709551616 ^ (k + 3) * val ((lu1.drop a).drop (k + 3)):=Int.mul_le_mul_of_nonneg_left (by omega) (Int.le_of_lt (pow_pos _))
   have k2:18446744073709551616 ^ a * 18446744073709551616 ^ (k + 3)<=18446744073709551616 ^ a * val (lu1.drop a):=Int.mul_le_mul_of_nonneg_left (by omega) (Int.le_of_lt hp)
   have k3:(V + 1) * 18446744073709551616 ^ (a + 1)<=18446744073709551616 ^ (k + 2) * 18446744073709551616 ^ (a + 1):=Int.mul_le_mul_of_nonneg_right (by omega) (Int.le_of_lt (pow_pos _))
   rw [Int.add_mul] at k3
   have k4:(18446744073709551616:Int) ^ (k + 2) * 18446744073709551616 ^ (a + 1)=18446744073709551616 ^ a * 18446744073709551616 ^ (k + 3):=by rw [<- Int.pow_add,<- Int.pow_add]; congr 1; omega
   have k5:=pow_pos (a + 1)
   omega
 rw [hz,Int.mul_zero,Int.add_zero] at e2
 rw [e2] at e1
 refine ⟨e1,?_⟩
 have k6:18446744073709551616 ^ a * val ((lu1.drop a).take (k + 3)) < 18446744073709551616 ^ a * (V * 18446744073709551616):=by
  have:18446744073709551616 ^ a * (V * 18446744073709551616)=V * 18446744073709551616 ^ (a + 1):=by rw [Int.pow_succ]; grind
  omega
 exact Int.lt_of_mul_lt_mul_left k6 (Int.le_of_lt hp)
theorem DLInv.step {lu:List Int} {V d:Int} {q0 k a:Nat} {lq lu1 nw:List Int} (h:DLInv lu V q0 k (a + 1) lq lu1) (ha:a < q0) (hV:V < 18446744073709551616 ^ (k + 2)) (d0:0<=d) (d1:d < 18446744073709551616) (wn:Words nw) (hn:nw.length=k + 3)
  (e:val nw=val ((lu1.drop a).take (k + 3)) - d * V) (e1:val nw < V):DLInv lu V q0 k a (lq.set a d) (patch lu1 a nw):=by
 have hw:=h.window ha hV
 have hl:=h.lenu
 have hlq:=h.lenq
 have hpv:=patch_val (l:=lu1) (m:=nw) (k:=a) (by omega)
 have ht:=val_lt (h.wu.take a)
 rw [List.length_take,Nat.min_eq_left (by omega)] at ht
 have hp:=pow_pos a
 refine ⟨by simp [hlq],by rw [patch_length (by omega)]; exact hl,h.wq.set a d0 d1,patch_words h.wu wn,?_,?_⟩
 ·rw [h.eq,val_drop (l:=lq.set a d) (by simp; omega),nth_set (by omega),if_pos rfl,List.drop_set,if_pos (by omega),hpv,hn,e,Int.pow_succ]
  grind
 ·have k1:18446744073709551616 ^ a * (val nw + 1)<=18446744073709551616 ^ a * V:=Int.mul_le_mul_of_nonneg_left (by omega) (Int.le_of_lt hp)
  rw [hpv,hn,Int.mul_sub,Int.mul_comm V]
  rw [Int.mul_add] at k1
  omega
theorem Free.below {B:Nat} {w w':World} (h:Below B w w') {b o n:Nat} (k:Free w b o n) (hb:b < B):Free w' b o n:=fun i hi=>by
 rw [World.frozen?_of_block (w:=w) (h.block b hb)]; exact k i hi
end Go.Proofs.YtfpclhjmfpfhiaaGreat
namespace Go.Proofs.YtfpclhjmfpfhiaaGreat
open Go.RowKit Lim
end Go.Proofs.YtfpclhjmfpfhiaaGreat
namespace Go.Proofs.YtfpclhjmfpfhiaaGreat
open Go.RowKit Lim
theorem Mine.cell {w:World} {B g n c:Nat} {l:List Int} (h:Mine w B (.slice (some ⟨g,0,none⟩) n c) l) {i:Nat} (hi:i < l.length):w.cell? ⟨g,i,none⟩=some (.int .u64 (nth l i))/\w.frozen? ⟨g,i,none⟩=false:=by
 obtain ⟨ao,c',e,_,_,g',hloc,_,hat,hfr⟩:=h.open
 simp only [Value.slice.injEq] at e
 obtain ⟨rfl,_,_⟩:=e
 have hg:g'=g:=by
  rcases hloc with e | e
  ·subst e; simp at hi
  ·simpa using e.symm
 subst hg
 have h1:=hat.cell i hi
 have h2:=hfr i hi
 rw [Nat.zero_add] at h1 h2
 exact ⟨h1,h2⟩
end Go.Proofs.YtfpclhjmfpfhiaaGreat
namespace Go.Proofs.YtfpclhjmfpfhiaaGreat
open Go.RowKit Lim
end Go.Proofs.YtfpclhjmfpfhiaaGreat
namespace Go.Proofs.YtfpclhjmfpfhiaaGreat
open Go.RowKit Lim
end Go.Proofs.YtfpclhjmfpfhiaaGreat
namespace Go.Proofs.YtfpclhjmfpfhiaaGreat
open Go.RowKit Lim
structure NatA (w:World) (ao:Option Addr) (n c:Nat) (x:Int):Prop where
 ex:∃ b o l,l.length=n/\n<=c/\Words l/\At w ao b o l/\val l=x
structure NatO (w:World) (ao:Option Addr) (n c:Nat) (x:Int):Prop where
 ex:∃ b o l,l.length=n/\n<=c/\IsN l x/\At w ao b o l
theorem NatO.a {w:World} {ao:Option Addr} {n c:Nat} {x:Int} (h:NatO w ao n c x):NatA w ao n c x:=by
 obtain ⟨b,o,l,h1,h2,h3,h4⟩:=h.ex
 exact ⟨b,o,l,h1,h2,h3.1,h4,h3.2.2⟩
theorem NatA.keep {w w':World} {ao:Option Addr} {n c:Nat} {x:Int} (h:NatA w ao n c x) (hb:Below w.heap.size w w'):NatA w' ao n c x:=by
 obtain ⟨b,o,l,h1,h2,h3,h4,h5⟩:=h.ex
 exact ⟨b,o,l,h1,h2,h3,h4.keep hb,h5⟩
theorem NatO.keep {w w':World} {ao:Option Addr} {n c:Nat} {x:Int} (h:NatO w ao n c x) (hb:Below w.heap.size w w'):NatO w' ao n c x:=by
 obtain ⟨b,o,l,h1,h2,h3,h4⟩:=h.ex
 exact ⟨b,o,l,h1,h2,h3,h4.keep hb⟩
theorem natO_nil (w:World):NatO w none 0 0 0:=⟨0,0,[],rfl,Nat.le_refl _,isN_nil,.inl rfl,fun i hi=>by simp at hi⟩
theorem NewV.o {w w':World} {v:Value} {r:List Int} {x:Int} (h:NewV w w' v r) (hI:IsN r x):∃ a c,v=.slice a r.length c/\NatO w' a r.length c x:=by
 obtain ⟨ao,b,o,c,e,h1,h2,h3,h4⟩:=h.is
 exact ⟨ao,c,e,b,o,r,rfl,h1,hI,h3⟩
theorem joinB {w wa w':World} (b:Below w.heap.size w wa) (h:Below wa.heap.size wa w'):Below w.heap.size w w':=b.trans (h.mono b.size)
theorem nSame {w:World} {ao ao':Option Addr} {n c n' c':Nat} {x y:Int} (h:NatO w ao n c x) (h':NatO w ao' n' c' y) (hn:n<=4398046511104) (hn':n'<=4398046511104) :
  Calls Tryz.prog 18 #[.slice ao n c,.slice ao' n' c'] w fun e w'=>e=.returned (.bool (decide (x=y)))/\Below w.heap.size w w':=by
 obtain ⟨b,o,l,h1,h2,h3,h4⟩:=h.ex
 obtain ⟨b',o',l',h1',h2',h3',h4'⟩:=h'.ex
 have t:=helpNat ao n c b o ao' n' c' b' o' l l' w h1 h1' hn hn' h4 h4'
 have e:eqB l l'=decide (x=y):=by
  unfold eqB
  by_cases k:x=y
  ·rw [decide_eq_true k,decide_eq_true (isN_unique h3 (k▸h3'))]
  ·rw [decide_eq_false k,decide_eq_false (fun q=>k (by rw [<- h3.2.2,<- h3'.2.2,q]))]
 rw [e] at t
 exact t
structure Slot (w:World) (g:Nat) (v:Value) (t:TypeId):Prop where
 blk:w.heap[g]? = some (.cells #[v] t (0,0))
theorem Slot.cell {w:World} {g:Nat} {v:Value} {t:TypeId} (h:Slot w g v t):w.cell? ⟨g,0,none⟩=some v:=cell_of_one h.blk
theorem Slot.free {w:World} {g:Nat} {v:Value} {t:TypeId} (h:Slot w g v t):w.frozen? ⟨g,0,none⟩=false:=free_of_one h.blk
theorem Slot.lt {w:World} {g:Nat} {v:Value} {t:TypeId} (h:Slot w g v t):g < w.heap.size:=lt_of_block h.blk
theorem Slot.keep {w w':World} {g:Nat} {v:Value} {t:TypeId} (h:Slot w g v t) (hb:Below w.heap.size w w'):Slot w' g v t:=⟨by rw [hb.block g h.lt]; exact h.blk⟩
theorem Slot.put {w:World} {g:Nat} {v:Value} {t:TypeId} (h:Slot w g v t) (u:Value):Slot (w.setCell ⟨g,0,none⟩ u) g u t:=⟨one_setCell h.blk⟩
theorem Slot.other {w:World} {g g':Nat} {v:Value} {t:TypeId} (h:Slot w g v t) (hne:g≠g') (u:Value):Slot (w.setCell ⟨g',0,none⟩ u) g v t:=⟨by rw [Below.heap_setCell w _ u g hne]; exact h.blk⟩
theorem slot_new (w:World) (v:Value) (t:TypeId):Slot (w.alloc (.cells #[v] t)) w.heap.size v t:=⟨by
 show (w.heap.push _)[w.heap.size]? = _
 rw [Array.getElem?_push_size]⟩
theorem Slot.alloc {w:World} {g:Nat} {v:Value} {t:TypeId} (h:Slot w g v t) (o:Obj):Slot (w.alloc o) g v t:=h.keep (below_alloc w o)
theorem slot_last2 (w:World) (o:Obj) (v:Value) (t:TypeId):Slot ((w.alloc o).alloc (.cells #[v] t)) (w.heap.size + 1) v t:=by
 have:=slot_new (w.alloc o) v t
 rwa [show (w.alloc o).heap.size=w.heap.size + 1 by simp] at this
theorem below2 (w:World) (o o':Obj):Below w.heap.size w ((w.alloc o).alloc o'):=joinB (below_alloc w o) (below_alloc _ o')
theorem below3 (w:World) (o o' o'':Obj):Below w.heap.size w (((w.alloc o).alloc o').alloc o''):=joinB (below2 w o o') (below_alloc _ o'')
theorem At.put {w:World} {ao:Option Addr} {b o g:Nat} {l:List Int} (k:At w ao b o l) {v:Value} {t:TypeId} (s:Slot w g v t) (hv:∀ x,v≠.int .u64 x) (u:Value):At (w.setCell ⟨g,0,none⟩ u) ao b o l :=
 ⟨k.loc,fun i hi=>by
  have hc:=k.cell i hi
  by_cases e:b=g
  ·subst e
   have h0:o + i=0->False:=fun e0=>by
    rw [e0,s.cell] at hc
    exact hv _ (Option.some.inj hc)
   have hs:=s.blk
   simp only [World.cell?,hs] at hc
   have:o + i < 1:=by
    have:=(Array.getElem?_eq_some_iff.1 hc).1
    simpa using this
   exact (h0 (by omega)).elim
  ·rw [World.cell?_of_block (w:=w) (Below.heap_setCell w _ u b e)]; exact hc⟩
theorem NatO.put {w:World} {ao:Option Addr} {n c g:Nat} {x:Int} (h:NatO w ao n c x) {v:Value} {t:TypeId} (s:Slot w g v t) (hv:∀ x,v≠.int .u64 x) (u:Value):NatO (w.setCell ⟨g,0,none⟩ u) ao n c x:=by
 obtain ⟨b,o,l,h1,h2,h3,h4⟩:=h.ex
 exact ⟨b,o,l,h1,h2,h3,h4.put s hv u⟩
theorem NatA.put {w:World} {ao:Option Addr} {n c g:Nat} {x:Int} (h:NatA w ao n c x) {v:Value} {t:TypeId} (s:Slot w g v t) (hv:∀ x,v≠.int .u64 x) (u:Value):NatA (w.setCell ⟨g,0,none⟩ u) ao n c x:=by
 obtain ⟨b,o,l,h1,h2,h3,h4,h5⟩:=h.ex
 exact ⟨b,o,l,h1,h2,h3,h4.put s hv u,h5⟩
theorem Slot.drew {w:World} {g:Nat} {v:Value} {t:TypeId} (h:Slot w g v t):Slot w.drew g v t:=⟨h.blk⟩
theorem NatA.drew {w:World} {ao:Option Addr} {n c:Nat} {x:Int} (h:NatA w ao n c x):NatA w.drew ao n c x:=by
 obtain ⟨b,o,l,h1,h2,h3,h4,h5⟩:=h.ex
 exact ⟨b,o,l,h1,h2,h3,h4.drew,h5⟩
theorem NatO.drew {w:World} {ao:Option Addr} {n c:Nat} {x:Int} (h:NatO w ao n c x):NatO w.drew ao n c x:=by
 obtain ⟨b,o,l,h1,h2,h3,h4⟩:=h.ex
 exact ⟨b,o,l,h1,h2,h3,h4.drew⟩
theorem info_dec:(Tryz.prog.info? 155).map (·.size)=some 1:=by kernel_rfl
theorem under_dec : ∃ f, Tryz.prog.underlying 155 = some (.struct f) := by
  cases h : Tryz.prog.underlying 155 with
  | none => exact absurd h (by have : (Tryz.prog.underlying 155).isSome = true := by kernel_rfl
                               intro e; rw [e] at this; simp at this)
  | some d =>
    have : (match Tryz.prog.underlying 155 with | some (.struct _) => true | _ => false) = true := by kernel_rfl
    rw [h] at this
    cases d <;> first | exact ⟨_, rfl⟩ | simp at this
theorem load_dec {w:World} {g:Nat} {v:Value} {t:TypeId} (s:Slot w g v t):(loadVar 155 ⟨g,0,none⟩).run Tryz.prog w=.ok (.agg #[v]) w:=by
 obtain ⟨f,hu⟩:=under_dec
 exact run_loadVar_row w g t 155 #[v] (0,0) _ s.blk hu rfl info_dec
theorem ret_dec {fn:Func} {p:Tmp} (h:fn.results=#[.cell p 155]) {tmps:Array Value} {w:World} {g:Nat} {v:Value} {t:TypeId} (hp:tmps.getD p undef=.pointer (some ⟨g,0,none⟩)) (s:Slot w g v t) :
  (results fn tmps).run Tryz.prog w=.ok (.agg #[v]) w:=by
 have hp':tmps[p]?.getD undef=.pointer (some ⟨g,0,none⟩):=by simpa using hp
 simp [results,h,hp',asAddr,load_dec s]
end Go.Proofs.YtfpclhjmfpfhiaaGreat
