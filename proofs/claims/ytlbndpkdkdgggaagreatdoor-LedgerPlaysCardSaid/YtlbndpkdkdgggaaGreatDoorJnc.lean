/- Several texts, joined: RefD, RefC, RefS, RefM, RefA, RefT, Fresh, RefP. -/
import Derived.Test.YtlbndpkdkdgggaaGreatDoorJna
import Derived.Test.YtlbndpkdkdgggaaGreatDoorJnb
import Derived.Deep.RegionLaw
set_option maxRecDepth 100000
set_option maxHeartbeats 8000000
namespace Go.Proofs.YtlbndpkdkdgggaaGreatDoor
section
open Go.RowKit Lim
theorem refTrim_any (ao:Option Addr) (n c:Nat) (l:List Int) (w:World) (hl:l.length=n) (hc:n<=c) (hb:n<=4398046511104) (hcell:Cells w ao l) :
  Calls Tryz.prog 126 #[.slice ao n c] w fun e w'=>e=.returned (.slice ao (nlen l) c)/\w'=w:=by
 go_enter Tryz.func126,Tryz.ntmps126
 go_wp2
 go_loop [3] (fun t=>∃ k:Nat,k<=n/\t=.int .i64 k/\Hid (∀ i,k<=i->nth l i=0)) (fun t=>(intOf t).toNat)
 case atStart=>exact ⟨n,Nat.le_refl _,rfl,fun i hi=>nth_ge (by omega)⟩
 case round =>
  obtain ⟨k,hk,rfl,hz⟩:=hrel
  by_cases hk0:0 < k
  ·rcases hcell with e | ⟨b,o,rfl,hcell⟩
   ·subst e; simp at hl; omega
   ·have hcx:=hcell (k - 1) (by omega)
    have hcy:w.cell? ⟨b,o + k - 1,none⟩=some (.int .u64 (nth l (k - 1))):=by rw [<- hcx]; congr 2; omega
    clear hcell
    go_wp2
    ·go_round
     case rel=>exact ⟨k - 1,by omega,by go_num,fun i hi=>by
      by_cases e:i=k - 1
      ·subst e; exact beq_iff_eq.1 (by assumption)
      ·exact hz.out i (by omega)⟩
     case measure=>simp [intOf]; omega
    ·go_ret
     rw [nlen_of (k:=k) (by omega) hz.out (fun _=>beq_eq_false_iff_ne.1 (by assumption))]
     exact ⟨rfl,rfl⟩
  ·go_wp2
   go_ret
   rw [nlen_of (k:=k) (by omega) hz.out (fun _=>by omega)]
   exact ⟨rfl,rfl⟩
def v32:List Int->Int
 | []=>0
 | x :: l=>x + 4294967296 * v32 l
def Dig32 (l:List Int):Prop:=∀ x∈l,0<=x/\x < 4294967296
theorem Dig32.nth {l:List Int} (h:Dig32 l) (i:Nat):0<=nth l i/\nth l i < 4294967296:=by
 by_cases hi:i < l.length
 ·exact h _ (nth_mem hi)
 ·rw [nth_ge (by omega)]; decide
theorem Dig32.take {l:List Int} (h:Dig32 l) (k:Nat):Dig32 (l.take k):=fun x hx=>h x (List.mem_of_mem_take hx)
theorem v32_append (a b:List Int):v32 (a ++ b)=v32 a + 4294967296 ^ a.length * v32 b:=by
 induction a with
 | nil=>simp [v32]
 | cons x a ih=>simp only [List.cons_append,v32,ih,List.length_cons,Int.pow_succ]; grind
theorem v32_zeros {l:List Int} (h:∀ i,nth l i=0):v32 l=0:=by
 induction l with
 | nil=>rfl
 | cons x l ih =>
  have h0:=h 0; rw [nth_zero] at h0
  rw [v32,h0,ih fun i=>by have:=h (i + 1); rwa [nth_succ] at this]; rfl
theorem v32_norm (l:List Int):v32 (norm l)=v32 l:=by
 conv=>rhs; rw [<- List.take_append_drop (nlen l) l]
 rw [v32_append,v32_zeros (l:=l.drop (nlen l)) fun i=>by rw [nth_drop]; exact nlen_above (by omega)]
 simp [norm]
theorem v32_bound {l:List Int} (h:Dig32 l):0<=v32 l/\v32 l < 4294967296 ^ l.length:=by
 induction l with
 | nil=>simp [v32]
 | cons x l ih =>
  have h1:=h x List.mem_cons_self
  have h2:=ih fun y hy=>h y (List.mem_cons_of_mem _ hy)
  simp only [v32,List.length_cons,Int.pow_succ]; omega
def halves:List Int->List Int
 | []=>[]
 | x :: l=>x % 4294967296 :: x / 4294967296 :: halves l
theorem halves_length (l:List Int):(halves l).length=2 * l.length:=by
 induction l with
 | nil=>rfl
 | cons x l ih=>simp [halves,ih]; omega
theorem halves_append (a b:List Int):halves (a ++ b)=halves a ++ halves b:=by
 induction a with
 | nil=>rfl
 | cons x a ih=>simp [halves,ih]
theorem halves_dig {l:List Int} (h:Words l):Dig32 (halves l):=by
 induction l with
 | nil=>intro x hx; simp [halves] at hx
 | cons y l ih =>
  intro x hx
  have hy:=h.head
  simp only [halves,List.mem_cons] at hx
  rcases hx with e | e | e
  ·subst e; omega
  ·subst e; omega
  ·exact ih h.tail x e
theorem halves_val {l:List Int}:v32 (halves l)=val l:=by
 induction l with
 | nil=>rfl
 | cons x l ih=>simp only [halves,v32,ih,val]; omega
theorem under_u64r:Tryz.prog.underlying 32=some (.slice 31):=by kernel_rfl
theorem wpList_makeR {w:World} {ops:Array Oper} {rest:List Oper} {o:Oper} {a:Act} {Q:Exit->Act->World->Prop}
  (hg:o.guard=none) (l c:Operand) (hop:o.op=Op.makeSlice 32 l c) (n m:Nat) (L C:Int) (hl:a.eval l=.int .i64 L) (hc:a.eval c=.int .i64 C) (hL:L=(n:Int)) (hC:C=(m:Int)) (hnm:n<=m) (hn:m<=17592186044416)
  (hK:∀ w',Row w' w.heap.size (List.replicate m 0)->Below w.heap.size w w'->w'.heap.size=w.heap.size + 1->wpList Tryz.prog ops Q rest (a.put o.dst (.slice (some ⟨w.heap.size,0,none⟩) n m)) w') :
  wpList Tryz.prog ops Q (o :: rest) a w:=by
 obtain ⟨i,hi,hz,hs,hb⟩:=info_parts info_u64
 refine wpList_plain hg fun K hK' => ?_
 have hrun:=run_make (P:=Tryz.prog) w 32 31 i (.int .u64 0) under_u64r hi hz .i64 .i64 (n:Int) (m:Int) (by omega) (by omega) (by rw [hb]; omega) (by omega)
 subst hL
 subst hC
 unfold Oper.wp
 simp only [execOp,hop,hl,hc]
 simp [hrun,Result.andThen]
 refine hK' _ _ (hK _ ?_ ?_ ?_)
 ·show (w.heap.push _)[w.heap.size]? = _
  rw [Array.getElem?_push_size,hs,Nat.mul_one,made_u64]
 ·exact (Below.refl _ _).alloc (Nat.le_refl _) _
 ·simp
theorem Row.cell {w:World} {g:Nat} {l:List Int} (h:Row w g l) {i:Nat} (hi:i < l.length):w.cell? ⟨g,i,none⟩=some (.int .u64 (nth l i)):=by
 have:=h.at.cell i hi; rwa [Nat.zero_add] at this
theorem Row.set {w:World} {g:Nat} {l:List Int} (h:Row w g l) (i:Nat) (x:Int):Row (w.setCell ⟨g,i,none⟩ (.int .u64 x)) g (l.set i x):=by
 unfold Row at *
 simp only [World.setCell,Array.getElem?_modify,if_true,h]
 simp
theorem Row.set2 {w:World} {g:Nat} {l:List Int} (h:Row w g l) (i:Nat) (x y:Int):Row (w.setCells g i [.int .u64 x,.int .u64 y]) g ((l.set i x).set (i + 1) y):=by
 show Row ((w.setCell ⟨g,i,none⟩ (.int .u64 x)).setCell ⟨g,i + 1,none⟩ (.int .u64 y)) g _
 exact (h.set i x).set (i + 1) y
theorem set2_app (a:List Int) (x y u v:Int) (b:List Int):((a ++ u :: v :: b).set a.length x).set (a.length + 1) y=a ++ x :: y :: b:=by
 rw [List.set_append_right _ _ (Nat.le_refl _),Nat.sub_self,List.set_cons_zero,List.set_append_right _ _ (by omega),Nat.add_sub_cancel_left,List.set_cons_succ,List.set_cons_zero]
theorem digits_any (ao:Option Addr) (n c b o:Nat) (l:List Int) (w:World) (hl:l.length=n) (hbig:n<=274877906944) (wl:Words l) (ha:At w ao b o l) :
  Calls Tryz.prog 102 #[.slice ao n c] w fun e w'=>∃ v d,e=.returned v/\NewV w w' v d/\Dig32 d/\nlen d=d.length/\v32 d=val l/\d.length<=2 * n/\Below w.heap.size w w':=by
 obtain ⟨i0,hi,hz0,hz1,hz2⟩:=info_parts info_u64
 go_enter Tryz.func102,Tryz.ntmps102
 go_wp2_with (at_make; refine wpList_makeR rfl _ _ rfl 0 (2 * n) _ _ rfl rfl rfl (by omega) (by omega) (by omega) ?_; intro w1 hrow hbel hsz)
 have ha1:=ha.keep hbel
 have hlt1:=hrow.lt
 go_loopw [3,4] (fun tz ti wr=>∃ k:Nat,k<=n/\ti=.int .i64 k/\tz=.slice (some ⟨w.heap.size,0,none⟩) (2 * k) (2 * n)/\Row wr w.heap.size (halves (l.take k) ++ List.replicate (2 * (n - k)) 0)/\Below w.heap.size w wr) (fun _ ti _=>n - (intOf ti).toNat)
 case atStart=>exact ⟨0,Nat.zero_le _,rfl,rfl,by simpa [halves] using hrow,hbel⟩
 case round =>
  clear hrow hbel ha1
  obtain ⟨k,hk,rfl,rfl,hrow,hbe⟩:=hrel
  by_cases hlt:k < n
  ·rcases ha.loc with e | rfl
   ·subst e; simp at hl; omega
   have hat:=ha.keep hbe
   have hcx:=hat.cell k (by omega)
   have hx:=wl.nth k
   have hltr:=hrow.lt
   have hlen:(halves (l.take k)).length=2 * k:=by rw [halves_length,List.length_take]; omega
   have hrest:List.replicate (2 * (n - k)) (0:Int)=0 :: 0 :: List.replicate (2 * (n - (k + 1))) 0:=by
    rw [show 2 * (n - k)=2 * (n - (k + 1)) + 1 + 1 from by omega]; rfl
   rw [hrest] at hrow
   have hstep:halves (l.take (k + 1))=halves (l.take k) ++ [nth l k % 4294967296,nth l k / 4294967296]:=by
    rw [take_succ_nth (by omega),halves_append]; rfl
   have hrow1:=fun ob:Obj=>(hrow.keep (below_alloc wr ob)).set2 (2 * k) (nth l k % 4294967296) (nth l k / 4294967296)
   have HR:Hid (∀ ob:Obj,Row ((wr.alloc ob).setCells w.heap.size (2 * k) [.int .u64 (nth l k % 4294967296),.int .u64 (nth l k / 4294967296)]) w.heap.size (halves (l.take (k + 1)) ++ List.replicate (2 * (n - (k + 1))) 0)):=by
    intro ob
    have:=hrow1 ob
    rw [<- hlen,set2_app] at this
    rw [hstep,List.append_assoc]
    rw [hlen] at this
    exact this
   have hcellA:=hrow.cell (i:=2 * k) (by simp [hlen])
   have hcellB:=hrow.cell (i:=2 * k + 1) (by simp [hlen])
   have hand:=and32 (nth l k) hx.1 hx.2
   clear hstep hrest hrow1
   generalize nth l k=x at *
   have s1:Hid (∀ j u,[Value.int .u64 (x % 4294967296),.int .u64 (x / 4294967296)][j]? = some u->(wr.alloc (.cells #[.int .u64 (x % 4294967296),.int .u64 (x / 4294967296)] 31)).cell? ((⟨wr.heap.size,0,none⟩:Addr).add j)=some u):=two_new _ _ _
   have s2:Hid (∀ u∈[Value.int .u64 (x % 4294967296),.int .u64 (x / 4294967296)],u.oneCell'=true):=fun u hu=>by
    simp at hu
    rcases hu with e | e<;>(subst e; rfl)
   have s3:Hid (∀ j,j < [Value.int .u64 (x % 4294967296),.int .u64 (x / 4294967296)].length->((wr.alloc (.cells #[.int .u64 (x % 4294967296),.int .u64 (x / 4294967296)] 31)).cell? ⟨w.heap.size,0 + 2 * k * 1 + j,none⟩).isSome=true/\(wr.alloc (.cells #[.int .u64 (x % 4294967296),.int .u64 (x / 4294967296)] 31)).frozen? ⟨w.heap.size,0 + 2 * k * 1 + j,none⟩=false):=by
    intro j hj
    have hr:=hrow.keep (below_alloc wr (.cells #[.int .u64 (x % 4294967296),.int .u64 (x / 4294967296)] 31))
    have hj2:j < 2:=by simpa using hj
    rw [Nat.zero_add,Nat.mul_one]
    exact ⟨by rw [hr.cell (by simp [hlen]; omega)]; rfl,by have:=hr.free 0 (2 * k + j + 1) (2 * k + j) (by omega); rwa [Nat.zero_add] at this⟩
   have hbeA:=(show Hid _ from hbe)
   clear hrow hcellA hcellB hbe hat
   go_wp2_with fail
   go_region_law (refine step_append_room rfl (.tmp 15) (.tmp 26) 32 rfl 31 i0 1 under_u64r hi hz1 w.heap.size 0 (2 * k) (2 * n) (by simp [Act.eval]) ⟨wr.heap.size,0,none⟩ 2 2 [.int .u64 (x % 4294967296),.int .u64 (x / 4294967296)] (by simp [Act.eval]) rfl s1.out s2.out (by omega) s3.out ?_)
   go_wp2
   all_goals
    have hbB:=((hbeA.out.alloc (by omega) (.cells #[.int .u64 (x % 4294967296),.int .u64 (x / 4294967296)] 31)).setCell (p:=⟨w.heap.size,2 * k,none⟩) (Nat.le_refl _) (.int .u64 (x % 4294967296))).setCell (p:=⟨w.heap.size,2 * k + 1,none⟩) (Nat.le_refl _) (.int .u64 (x / 4294967296))
    refine ⟨⟨k + 1,by omega,by go_num,by rw [show 2 * (k + 1)=2 * k + 2 from by omega],?_,?_⟩,by simp [intOf]; omega⟩
    ·exact HR.out _
    ·exact ⟨hbB.os,hbB.tape,hbB.output,hbB.size,hbB.block⟩
  ·have hkn:k=n:=by omega
   subst hkn
   rw [Nat.sub_self,Nat.mul_zero,List.replicate_zero,List.append_nil,List.take_of_length_le (by omega)] at hrow
   have hlen:=halves_length l
   rw [hl] at hlen
   have t3:=refTrim_any (some ⟨w.heap.size,0,none⟩) (2 * k) (2 * k) (halves l) wr hlen (Nat.le_refl _) (by omega) hrow.at.cells
   have hz1:=nlen_le (halves l)
   have hz2:=norm_length (halves l)
   have hz3:=hrow.at.sub (nlen (halves l))
   have hz4:=nlen_norm (halves l)
   have hz5:=v32_norm (halves l)
   have hz6:Dig32 (norm (halves l)):=(halves_dig wl).take _
   have hfz:=hrow.free 0 (2 * k)
   rw [show (halves l).take (nlen (halves l))=norm (halves l) from rfl] at hz3
   rw [halves_val] at hz5
   clear hrow
   generalize nlen (halves l)=K at *
   generalize norm (halves l)=R at *
   have HV:=(show Hid _ from hz5)
   clear hz5
   go_wp2_with fail
   refine t3.mono ?_
   rintro e w6 ⟨rfl,rfl⟩
   go_wp2
   go_ret
   exact ⟨_,R,rfl,NewV.of hz2.symm (by omega) (Nat.le_refl _) hz3 (fun i hi=>hfz i (by omega)),hz6,hz4,HV.out,by omega,hbe⟩
structure NumInv (d:List Int) (m k:Nat) (lz:List Int):Prop where
 len:lz.length=m
 words:Words lz
 val:Lim.val lz=v32 (d.take k)
theorem pow32_parts (k:Nat):(4294967296:Int) ^ k=18446744073709551616 ^ (k / 2) * 2 ^ (32 * (k % 2)):=by
 have e:(18446744073709551616:Int)=4294967296 ^ 2:=by decide
 have e2:(2:Int) ^ (32 * (k % 2))=4294967296 ^ (k % 2):=by rw [Int.pow_mul]; rfl
 rw [e,e2,<- Int.pow_mul,<- Int.pow_add]; congr 1; omega
theorem num_step {d lz:List Int} {m k:Nat} (hd:Dig32 d) (hm:(d.length + 1) / 2=m) (h:NumInv d m k lz) (hk:k < d.length) :
  bits .or .u64 (nth lz (k / 2)) (IntKind.u64.wrap (nth d k * 2 ^ (32 * (k % 2))))=nth lz (k / 2) + nth d k * 2 ^ (32 * (k % 2)) /\
  NumInv d m (k + 1) (lz.set (k / 2) (nth lz (k / 2) + nth d k * 2 ^ (32 * (k % 2)))):=by
 have hl:=h.len
 have hx:=hd.nth k
 have hbd:=v32_bound (hd.take k)
 rw [List.length_take,Nat.min_eq_left (by omega)] at hbd
 have hv:=h.val
 have hz:=h.words.nth (k / 2)
 have hlt:=limb_lt h.words (i:=k / 2) (by omega) (P:=2 ^ (32 * (k % 2))) (by rw [<- pow32_parts,hv]; exact hbd.2)
 have hS:(0:Int) < 2 ^ (32 * (k % 2)):=Int.pow_pos (by decide)
 have hT:(2:Int) ^ (32 * (k % 2)) * 4294967296<=18446744073709551616:=by
  rcases (show k % 2=0\/k % 2=1 by omega) with e | e<;>rw [e]<;>decide
 have hx1:0<=nth d k * 2 ^ (32 * (k % 2)):=Int.mul_nonneg hx.1 (Int.le_of_lt hS)
 have hx2:nth d k * 2 ^ (32 * (k % 2))<=4294967295 * 2 ^ (32 * (k % 2)):=Int.mul_le_mul_of_nonneg_right (by omega) (Int.le_of_lt hS)
 constructor
 ·rw [IntKind.wrap_u64,Int.emod_eq_of_lt hx1 (by omega)]
  rw [u64_or _ _ hz.1 hz.2 hx1 (by omega),Nat.or_comm,<- u64_or _ _ hx1 (by omega) hz.1 hz.2]
  rw [or_add _ _ (32 * (k % 2)) _ rfl hx.1 (by omega) hz.1 hlt hz.2,Int.add_comm]
 ·refine ⟨by simp [hl],h.words.set _ (by omega) (by omega),?_⟩
  rw [val_set (by omega),hv,take_succ_nth hk,v32_append,List.length_take,Nat.min_eq_left (by omega),pow32_parts k]
  simp only [v32]
  grind
theorem pow32_mono {a b:Nat} (h:a<=b):(4294967296:Int) ^ a<=4294967296 ^ b:=by
 have:(4294967296:Nat) ^ a<=4294967296 ^ b:=Nat.pow_le_pow_right (by decide) h
 have e1:((4294967296 ^ a:Nat):Int)=(4294967296:Int) ^ a:=by rw [Int.natCast_pow]; rfl
 have e2:((4294967296 ^ b:Nat):Int)=(4294967296:Int) ^ b:=by rw [Int.natCast_pow]; rfl
 omega
theorem v32_ge {l:List Int} (h:Dig32 l) (h0:0 < l.length) (h1:nth l (l.length - 1)≠0):4294967296 ^ (l.length - 1)<=v32 l:=by
 have hsp:l=l.take (l.length - 1) ++ [nth l (l.length - 1)]:=by
  rw [<- take_succ_nth (by omega),show l.length - 1 + 1=l.length from by omega,List.take_of_length_le (Nat.le_refl _)]
 have hx:=h.nth (l.length - 1)
 have hb:=v32_bound (h.take (l.length - 1))
 have hv:v32 l=v32 (l.take (l.length - 1)) + 4294967296 ^ (l.length - 1) * nth l (l.length - 1):=by
  conv=>lhs; rw [hsp]
  rw [v32_append,List.length_take,Nat.min_eq_left (by omega)]; simp [v32]
 have hp:(0:Int) < 4294967296 ^ (l.length - 1):=Int.pow_pos (by decide)
 have:(4294967296:Int) ^ (l.length - 1) * 1<=4294967296 ^ (l.length - 1) * nth l (l.length - 1):=Int.mul_le_mul_of_nonneg_left (by omega) (Int.le_of_lt hp)
 omega
theorem number_any (ao:Option Addr) (n c b o:Nat) (d:List Int) (w:World) (hl:d.length=n) (hc:n<=c) (hbig:n<=1099511627776) (hd:Dig32 d) (ha:At w ao b o d) :
  Calls Tryz.prog 103 #[.slice ao n c] w fun e w'=>∃ v r,e=.returned v/\NewV w w' v r/\IsN r (v32 d)/\r.length<=n/\Below w.heap.size w w':=by
 have hn:=nlen_le d
 have t1:=refTrim_any ao n c d w hl hc (by omega) ha.cells
 have hs:=ha.sub (nlen d)
 have hnl:=norm_length d
 have hdn:Dig32 (norm d):=hd.take _
 have hvn:=v32_norm d
 have hlast:nlen d≠0->nth (norm d) (nlen d - 1)≠0:=fun h=>by rw [norm_nth]; exact nlen_last h
 have hne:norm d=[]\/b≠w.heap.size:=by
  rcases hs.lt with e | e
  ·exact .inl e
  ·exact .inr (by omega)
 rw [show d.take (nlen d)=norm d from rfl] at hs
 rw [<- hvn]
 generalize nlen d=N at *
 generalize norm d=D at *
 clear hvn ha hd
 obtain ⟨m,hm⟩:∃ m:Nat,((N:Int) + 1) / 2=m:=⟨(N + 1) / 2,by omega⟩
 go_enter Tryz.func103,Tryz.ntmps103
 go_wp2_with fail
 refine t1.mono ?_
 rintro e w1 ⟨rfl,rfl⟩
 clear t1
 go_wp2_with (at_make; refine wpList_makeN rfl _ _ rfl m _ _ rfl rfl (by omega) (by omega) (by omega) ?_; intro w2 hrow hbel hsz)
 have hs2:=hs.keep hbel
 clear hs
 go_loopw [4] (fun ti wr=>∃ (k:Nat) (lz:List Int),k<=N/\ti=.int .i64 k/\NumInv D m k lz/\At wr (some ⟨w1.heap.size,0,none⟩) w1.heap.size 0 lz/\Wr w1.heap.size 0 m w2 wr) (fun ti _=>N - (intOf ti).toNat)
 case atStart=>exact ⟨0,_,Nat.zero_le _,rfl,⟨by simp,words_zero _,by rw [val_zeros fun i=>by simp [nth,List.getElem?_replicate]; split<;>rfl]; rfl⟩,hrow.at,Wr.refl _ _ _ _⟩
 case round =>
  obtain ⟨k,lz,hk,rfl,hinv,hat,hwr⟩:=hrel
  have hlen:=hinv.len
  by_cases hlt:k < N
  ·obtain ⟨i,hi⟩:∃ i:Nat,(k:Int) / 2=i:=⟨k / 2,by omega⟩
   obtain ⟨j,hj⟩:∃ j:Nat,(k:Int) % 2=j:=⟨k % 2,by omega⟩
   have hi1:(i:Int) < m:=by omega
   have hk1:(k:Int) < N:=by omega
   have hj1:j < 2:=by omega
   rcases hs2.loc with e | rfl
   ·subst e; simp at hnl; omega
   have hcz:=hat.cell i (by omega)
   have hcb:=(hs2.wr hwr hne).cell k (by omega)
   have hfr:=hwr.free (hrow.free 0 m) i (by omega)
   rw [Nat.zero_add] at hcz hfr
   have hst:=num_step hdn (m:=m) (by omega) hinv (by omega)
   rw [show k / 2=i from by omega,show k % 2=j from by omega] at hst
   obtain ⟨hst1,hst2⟩:=hst
   have HS:=(show Hid _ from hst2)
   have HA:=(show Hid _ from hat)
   have HW:=(show Hid _ from hwr)
   have hxx:=hdn.nth k
   clear hst2 hat hwr hinv hrow hs2 hdn
   generalize nth lz i=z at *
   generalize nth D k=x at *
   go_wp2_with fail
   go_region
   go_wp2
   refine ⟨⟨k + 1,_,by omega,by go_num,HS.out,?_,?_⟩,by simp [intOf]; omega⟩
   ·have:=(HA.out.setCell (i:=i) (by omega) (z + x * 2 ^ (32 * j))).drew
    rwa [Nat.zero_add] at this
   ·exact (HW.out.setCell (by omega) (by omega) _).drew
  ·have hkn:k=N:=by omega
   subst hkn
   have hv:=hinv.val
   rw [List.take_of_length_le (by omega)] at hv
   have hfz:=hwr.free (hrow.free 0 m)
   have HB:=hbel.trans (hwr.below (Nat.le_refl _))
   have hnm:nlen lz=lz.length:=by
    have h1:=nlen_le lz
    by_cases c:nlen lz < lz.length
    ·have h2:=val_lt_nlen hinv.words
     have h3:=pow_mono (show nlen lz<=m - 1 by omega)
     have hk0:k≠0:=by omega
     have h5:=v32_ge hdn (by omega) (by rw [hnl]; exact hlast hk0)
     have h4:(18446744073709551616:Int) ^ (m - 1)<=4294967296 ^ (D.length - 1):=by
      rw [show (18446744073709551616:Int)=4294967296 ^ 2 from by decide,<- Int.pow_mul]
      exact pow32_mono (by omega)
     rw [hv] at h2
     omega
    ·omega
   have HI:IsN lz (v32 D):=⟨hinv.words,hnm,hv⟩
   clear hinv hrow hwr hbel hs2 hv hnm
   go_wp2
   go_ret
   exact ⟨_,lz,rfl,NewV.of hlen.symm (Nat.le_refl _) (Nat.le_refl _) hat hfz,HI,by omega,HB⟩
end
section
open Go.RowKit Lim
theorem v32_cons (l:List Int):v32 l=nth l 0 + 4294967296 * v32 l.tail:=by
 cases l with
 | nil=>simp [v32,nth]
 | cons x l=>simp [v32,nth_zero]
theorem dig_tl {l:List Int} (h:Dig32 l):Dig32 l.tail:=fun x hx=>h x (List.mem_of_mem_tail hx)
theorem v32_ext:∀ {a b:List Int},(∀ i,nth a i=nth b i)->v32 a=v32 b
 | [],b,h=>by rw [v32_zeros (l:=b) fun i=>by rw [<- h i,nth_nil]]; rfl
 | x :: a,b,h=>by
  have h0:=h 0
  rw [v32_cons (x :: a),v32_cons b,h0,v32_ext (a:=(x :: a).tail) (b:=b.tail) fun i=>by rw [nth_tail,nth_tail]; exact h (i + 1)]
theorem v32_lt_at:∀ (h:Nat) {a b:List Int},Dig32 a->Dig32 b->(∀ i,h < i->nth a i=nth b i)->nth a h < nth b h->v32 a < v32 b
 | 0,a,b,ha,hb,he,hl=>by
  rw [v32_cons a,v32_cons b,v32_ext (a:=a.tail) (b:=b.tail) fun i=>by rw [nth_tail,nth_tail]; exact he (i + 1) (by omega)]
  omega
 | h + 1,a,b,ha,hb,he,hl=>by
  have ih:=v32_lt_at h (dig_tl ha) (dig_tl hb) (fun i hi=>by rw [nth_tail,nth_tail]; exact he (i + 1) (by omega)) (by rw [nth_tail,nth_tail]; exact hl)
  have h1:=(ha.nth 0)
  have h2:=(hb.nth 0)
  rw [v32_cons a,v32_cons b]
  omega
theorem v32_len {a b:List Int} (ha:Dig32 a) (hb:Dig32 b) (nb:nlen b=b.length) (h:a.length < b.length):v32 a < v32 b:=by
 refine v32_lt_at (b.length - 1) ha hb (fun i hi=>by rw [nth_ge (by omega),nth_ge (by omega)]) ?_
 rw [nth_ge (l:=a) (by omega)]
 have h1:=nlen_last (l:=b) (by omega)
 rw [nb] at h1
 have:=(hb.nth (b.length - 1)).1
 omega
theorem refcmp_any (ao:Option Addr) (n c b o:Nat) (ao':Option Addr) (n' c' b' o':Nat) (l l':List Int) (w:World) (hl:l.length=n) (hl':l'.length=n') (hbig:n<=1099511627776) (hbig':n'<=1099511627776)
  (dl:Dig32 l) (dl':Dig32 l') (nl:nlen l=l.length) (nl':nlen l'=l'.length) (ha:At w ao b o l) (ha':At w ao' b' o' l') :
  Calls Tryz.prog 127 #[.slice ao n c,.slice ao' n' c'] w fun e w'=>e=.returned (.int .i64 (sgn (v32 l) (v32 l')))/\Below w.heap.size w w':=by
 rcases Nat.lt_trichotomy n n' with hlt | heq | hgt
 ·rw [sgn_lt (v32_len dl dl' nl' (by omega))]
  have h1:(n:Int) < n':=by omega
  go_enter Tryz.func127,Tryz.ntmps127
  go_wp2
  go_ret
  exact ⟨rfl,Below.refl _ _⟩
 ·subst heq
  go_enter Tryz.func127,Tryz.ntmps127
  go_wp2_with fail
  go_loopw [5] (fun ti wr=>∃ k:Nat,k<=n/\ti=.int .i64 ((k:Int) - 1)/\Hid (∀ i,k<=i->nth l i=nth l' i)/\Below w.heap.size w wr) (fun ti _=>(intOf ti + 1).toNat)
  case atStart=>exact ⟨n,Nat.le_refl _,by first | rfl | go_num,fun i hi=>by rw [nth_ge (by omega),nth_ge (by omega)],Below.refl _ _⟩
  case round =>
   obtain ⟨k,hk,rfl,hz,hbe⟩:=hrel
   cases k with
   | zero =>
    have HE:Hid (sgn (v32 l) (v32 l')=0):=sgn_eq (v32_ext fun i=>hz.out i (Nat.zero_le _))
    go_wp2
    go_ret
    exact ⟨ret1 HE.out.symm,hbe⟩
   | succ m =>
    have hat:=ha.keep hbe
    have hat':=ha'.keep hbe
    rcases ha.loc with e | rfl
    ·subst e; simp at hl; omega
    rcases ha'.loc with e | rfl
    ·subst e; simp at hl'; omega
    have q1:=hat.cell m (by omega)
    have q2:=hat'.cell m (by omega)
    have hm0:(m:Int) < n:=by omega
    have hz':∀ i,m < i->nth l i=nth l' i:=fun i hi=>hz.out i hi
    rw [show ((m + 1:Nat):Int) - 1=(m:Int) by omega]
    rcases Int.lt_trichotomy (nth l m) (nth l' m) with hd | hd | hd
    ·have HE:Hid (sgn (v32 l) (v32 l') = -1):=sgn_lt (v32_lt_at m dl dl' hz' hd)
     generalize nth l m=x at *
     generalize nth l' m=y at *
     clear ha ha' hat hat' hz' hz
     go_wp2_with fail
     go_quiet (fail)
     go_wp2
     go_ret
     exact ⟨ret1 HE.out.symm,below_drewN hbe _⟩
    ·have HE:Hid (∀ i,m<=i->nth l i=nth l' i):=fun i hi=>by
      by_cases e:i=m
      ·subst e; exact hd
      ·exact hz' i (by omega)
     rw [hd] at q1
     generalize nth l' m=y at q1 q2
     clear ha ha' hat hat' hz' hz hd
     go_wp2_with fail
     go_quiet (fail)
     go_wp2_with fail
     go_quiet (fail)
     go_wp2
     go_roundw
     case rel=>exact ⟨m,by omega,by first | rfl | go_num,HE,below_drewN hbe _⟩
     case measure=>simp [intOf]
    ·have HE:Hid (sgn (v32 l) (v32 l')=1):=sgn_gt (v32_lt_at m dl' dl (fun i hi=>(hz' i hi).symm) hd)
     generalize nth l m=x at *
     generalize nth l' m=y at *
     clear ha ha' hat hat' hz' hz
     go_wp2_with fail
     go_quiet (fail)
     go_wp2_with fail
     go_quiet (fail)
     go_wp2
     go_ret
     exact ⟨ret1 HE.out.symm,below_drewN (below_drewN hbe _) _⟩
 ·rw [sgn_gt (v32_len dl' dl nl (by omega))]
  have h1:(n':Int) < n:=by omega
  go_enter Tryz.func127,Tryz.ntmps127
  go_wp2
  go_ret
  exact ⟨rfl,Below.refl _ _⟩
structure DigO (w:World) (ao:Option Addr) (n c:Nat) (x:Int):Prop where
 ex:∃ b o d,d.length=n/\n<=c/\Dig32 d/\nlen d=d.length/\At w ao b o d/\v32 d=x
theorem DigO.keep {w w':World} {ao:Option Addr} {n c:Nat} {x:Int} (h:DigO w ao n c x) (hb:Below w.heap.size w w'):DigO w' ao n c x:=by
 obtain ⟨b,o,d,h1,h2,h3,h4,h5,h6⟩:=h.ex
 exact ⟨b,o,d,h1,h2,h3,h4,h5.keep hb,h6⟩
theorem rDigits {w:World} {ao:Option Addr} {n c:Nat} {x:Int} (h:NatA w ao n c x) (hn:n<=274877906944) :
  Calls Tryz.prog 102 #[.slice ao n c] w fun e w'=>∃ a k d,e=.returned (.slice a k d)/\DigO w' a k d x/\k<=2 * n/\Below w.heap.size w w':=by
 obtain ⟨b,o,l,h1,h2,h3,h4,rfl⟩:=h.ex
 refine (digits_any ao n c b o l w h1 hn h3 h4).mono ?_
 rintro e w' ⟨v,d,rfl,hnw,hD,hN,hv,hlen,hB⟩
 obtain ⟨ao',b',o',c',e',h5,_,h7,_⟩:=hnw.is
 exact ⟨ao',_,c',by rw [e'],⟨b',o',d,rfl,h5,hD,hN,h7,hv⟩,hlen,hB⟩
theorem rcmp {w:World} {ao ao':Option Addr} {n c n' c':Nat} {x y:Int} (h:DigO w ao n c x) (h':DigO w ao' n' c' y) (hn:n<=1099511627776) (hn':n'<=1099511627776) :
  Calls Tryz.prog 127 #[.slice ao n c,.slice ao' n' c'] w fun e w'=>e=.returned (.int .i64 (sgn x y))/\Below w.heap.size w w':=by
 obtain ⟨b,o,d,h1,h2,h3,h4,h5,rfl⟩:=h.ex
 obtain ⟨b',o',d',h1',h2',h3',h4',h5',rfl⟩:=h'.ex
 exact refcmp_any ao n c b o ao' n' c' b' o' d d' w h1 h1' hn hn' h3 h3' h4 h4' h5 h5'
end
section
open Go.RowKit Lim
theorem rNumber {w:World} {ao:Option Addr} {n c:Nat} {x:Int} (h:DigO w ao n c x) (hn:n<=1099511627776) :
  Calls Tryz.prog 103 #[.slice ao n c] w fun e w'=>∃ a k d,e=.returned (.slice a k d)/\NatO w' a k d x/\k<=n/\Below w.heap.size w w':=by
 obtain ⟨b,o,d,h1,h2,h3,h4,h5,rfl⟩:=h.ex
 refine (number_any ao n c b o d w h1 h2 hn h3 h5).mono ?_
 rintro e w' ⟨v,r,rfl,hnw,hI,hlen,hB⟩
 obtain ⟨a,d',rfl,hO⟩:=hnw.o hI
 exact ⟨a,_,d',rfl,hO,hlen,hB⟩
theorem rNorm {w:World} {ao:Option Addr} {n c:Nat} {x:Int} (h:NatA w ao n c x) (hn:n<=274877906944) :
  Calls Tryz.prog 101 #[.slice ao n c] w fun e w'=>∃ a k d,e=.returned (.slice a k d)/\NatO w' a k d x/\k<=2 * n/\Below w.heap.size w w':=by
 go_enter Tryz.func101,Tryz.ntmps101
 go_wp2_with fail
 refine (rDigits h hn).mono ?_
 rintro e w1 ⟨a1,k1,d1,rfl,O1,hk1,hB⟩
 have HB:=hB
 clear hB
 go_wp2_with fail
 refine (rNumber O1 (by omega)).mono ?_
 rintro e w2 ⟨a2,k2,d2,rfl,O2,hk2,hB⟩
 go_wp2
 go_ret
 exact ⟨a2,k2,d2,rfl,O2,by omega,joinB HB hB⟩
end
section
open Go.RowKit Lim
theorem p32_pos (k:Nat):(0:Int) < 4294967296 ^ k:=Int.pow_pos (by decide)
theorem v32_take_succ (l:List Int) (k:Nat):v32 (l.take (k + 1))=v32 (l.take k) + 4294967296 ^ k * nth l k:=by
 by_cases h:k < l.length
 ·rw [take_succ_nth h,v32_append,List.length_take,Nat.min_eq_left (by omega)]; simp [v32]
 ·rw [List.take_of_length_le (by omega),List.take_of_length_le (by omega),nth_ge (by omega)]; simp
theorem v32_set {l:List Int} {i:Nat} (h:i < l.length) (x:Int):v32 (l.set i x)=v32 l + 4294967296 ^ i * (x - nth l i):=by
 induction l generalizing i with
 | nil=>simp at h
 | cons y l ih =>
  cases i with
  | zero=>simp only [List.set_cons_zero,v32,nth_zero,Int.pow_zero]; omega
  | succ i =>
   rw [List.set_cons_succ,v32,v32,nth_succ,ih (by simpa using h),Int.pow_succ]
   grind
theorem v32_take_set {l:List Int} {k:Nat} (h:k < l.length) (x:Int):v32 ((l.set k x).take (k + 1))=v32 (l.take k) + 4294967296 ^ k * x:=by
 rw [v32_take_succ,nth_set h,if_pos rfl,List.take_set_of_le (by omega)]
theorem Dig32.set {l:List Int} (h:Dig32 l) (k:Nat) {x:Int} (h0:0<=x) (h1:x < 4294967296):Dig32 (l.set k x):=by
 intro y hy
 rcases List.mem_or_eq_of_mem_set hy with e | e
 ·exact h y e
 ·subst e; exact ⟨h0,h1⟩
theorem dig_zero (n:Nat):Dig32 (List.replicate n 0):=fun x hx=>by
 have:=(List.mem_replicate.1 hx).2
 subst this; decide
theorem v32_zero (n:Nat):v32 (List.replicate n 0)=0:=v32_zeros fun i=>by simp [nth,List.getElem?_replicate]; split<;>rfl
structure SumInv (x y lz:List Int) (n k:Nat) (c:Int):Prop where
 len:lz.length=n
 dig:Dig32 lz
 c0:0<=c
 c1:c<=1
 val:v32 (lz.take k) + 4294967296 ^ k * c=v32 (x.take k) + v32 (y.take k)
theorem SumInv.step {x y lz:List Int} {n k:Nat} {c s:Int} (h:SumInv x y lz n k c) (hk:k < n) (hx:Dig32 x) (hy:Dig32 y) (hs:s=c + nth x k + nth y k) :
  SumInv x y (lz.set k (s % 4294967296)) n (k + 1) (s / 4294967296):=by
 have h1:=hx.nth k
 have h2:=hy.nth k
 have h3:=h.c0
 have h4:=h.c1
 have h5:=h.val
 have hl:=h.len
 refine ⟨by simp [hl],h.dig.set _ (by omega) (by omega),by omega,by omega,?_⟩
 rw [v32_take_set (by omega),v32_take_succ,v32_take_succ,Int.pow_succ]
 have e:s=4294967296 * (s / 4294967296) + s % 4294967296:=(Int.mul_ediv_add_emod s 4294967296).symm
 generalize s / 4294967296=q at *
 generalize s % 4294967296=r at *
 have:(4294967296:Int) ^ k * (4294967296 * q + r)=4294967296 ^ k * (c + nth x k + nth y k):=by rw [<- e,hs]
 grind
theorem SumInv.fin {x y lz:List Int} {n:Nat} {c:Int} (h:SumInv x y lz n n c) (hx:Dig32 x) (hy:Dig32 y) (h1:x.length < n) (h2:y.length < n):v32 lz=v32 x + v32 y:=by
 have hv:=h.val
 have hl:=h.len
 have bx:=v32_bound hx
 have by':=v32_bound hy
 have bz:=v32_bound h.dig
 rw [List.take_of_length_le (by omega),List.take_of_length_le (by omega),List.take_of_length_le (by omega)] at hv
 have m1:=pow32_mono (show x.length<=n - 1 by omega)
 have m2:=pow32_mono (show y.length<=n - 1 by omega)
 have hp:(4294967296:Int) ^ n=4294967296 ^ (n - 1) * 4294967296:=by rw [<- Int.pow_succ]; congr 1; omega
 have hq:=p32_pos (n - 1)
 have h3:=h.c0
 have h4:=h.c1
 have hc:c=0:=by
  by_cases e:c=1
  ·subst e; rw [hp] at hv; omega
  ·omega
 subst hc
 omega
structure DifInv (x y lz:List Int) (n k:Nat) (c:Int):Prop where
 len:lz.length=n
 dig:Dig32 lz
 c0:0<=c
 c1:c<=1
 val:v32 (lz.take k)=v32 (x.take k) - v32 (y.take k) + 4294967296 ^ k * c
theorem DifInv.step {x y lz:List Int} {n k:Nat} {c s r c':Int} (h:DifInv x y lz n k c) (hk:k < n) (hs:s=c + nth y k) (hc:c'=0\/c'=1) (hr:r=nth x k - s + 4294967296 * c') (hr0:0<=r) (hr1:r < 4294967296) :
  DifInv x y (lz.set k r) n (k + 1) c':=by
 have h5:=h.val
 have hl:=h.len
 refine ⟨by simp [hl],h.dig.set _ hr0 hr1,by omega,by omega,?_⟩
 rw [v32_take_set (by omega),v32_take_succ,v32_take_succ,Int.pow_succ,h5,hr,hs]
 grind
theorem DifInv.fin {x y lz:List Int} {n:Nat} {c:Int} (h:DifInv x y lz n n c) (hx:Dig32 x) (hy:Dig32 y) (h1:x.length=n) (h2:y.length<=n) (hle:v32 y<=v32 x):v32 lz=v32 x - v32 y:=by
 have hv:=h.val
 have hl:=h.len
 have bz:=v32_bound h.dig
 have bx:=v32_bound hx
 have by':=v32_bound hy
 rw [List.take_of_length_le (by omega),List.take_of_length_le (by omega),List.take_of_length_le (by omega)] at hv
 have h3:=h.c0
 have h4:=h.c1
 rw [hl] at bz
 have hc:c=0:=by
  by_cases e:c=1
  ·subst e; omega
  ·omega
 subst hc
 omega
structure RowInv (y lz0 lz:List Int) (xi:Int) (n i j:Nat) (c:Int):Prop where
 len:lz.length=n
 dig:Dig32 lz
 c0:0<=c
 c1:c < 4294967296
 old:∀ m,i + j<=m->nth lz m=nth lz0 m
 val:v32 lz + 4294967296 ^ (i + j) * c=v32 lz0 + 4294967296 ^ i * (xi * v32 (y.take j))
theorem row_room {a x y c:Int} (ha:0<=a/\a < 4294967296) (hx:0<=x/\x < 4294967296) (hy:0<=y/\y < 4294967296) (hc:0<=c/\c < 4294967296) :
  0<=x * y/\x * y<=18446744065119617025/\0<=a + x * y + c/\a + x * y + c < 18446744073709551616:=by
 have h1:0<=x * y:=Int.mul_nonneg hx.1 hy.1
 have h2:x * y<=4294967295 * 4294967295:=Int.mul_le_mul (by omega) (by omega) hy.1 (by decide)
 omega
theorem RowInv.step {y lz0 lz:List Int} {xi c s:Int} {n i j:Nat} (h:RowInv y lz0 lz xi n i j c) (hn:i + j < n) (hx:0<=xi/\xi < 4294967296) (hy:Dig32 y) (hs:s=nth lz (i + j) + xi * nth y j + c) :
  RowInv y lz0 (lz.set (i + j) (s % 4294967296)) xi n i (j + 1) (s / 4294967296):=by
 have hl:=h.len
 have hr:=row_room (h.dig.nth (i + j)) hx (hy.nth j) ⟨h.c0,h.c1⟩
 rw [<- hs] at hr
 refine ⟨by simp [hl],h.dig.set _ (by omega) (by omega),by omega,by omega,fun m hm => ?_,?_⟩
 ·rw [nth_set (by omega),if_neg (by omega)]; exact h.old m (by omega)
 ·have h5:=h.val
  have e:s=4294967296 * (s / 4294967296) + s % 4294967296:=(Int.mul_ediv_add_emod s 4294967296).symm
  rw [v32_set (by omega),v32_take_succ,show i + (j + 1)=i + j + 1 from by omega,Int.pow_succ]
  generalize s / 4294967296=q at *
  generalize s % 4294967296=r at *
  have e2:(4294967296:Int) ^ (i + j) * (4294967296 * q + r)=4294967296 ^ (i + j) * (nth lz (i + j) + xi * nth y j + c):=by rw [<- e,hs]
  have e3:(4294967296:Int) ^ (i + j)=4294967296 ^ i * 4294967296 ^ j:=Int.pow_add _ _ _
  rw [e3] at *
  grind
structure ProInv (x y lz:List Int) (n k:Nat):Prop where
 len:lz.length=n
 dig:Dig32 lz
 zero:∀ m,k + y.length<=m->nth lz m=0
 val:v32 lz=v32 (x.take k) * v32 y
theorem ProInv.row {x y lz0 lz:List Int} {n k:Nat} {c:Int} (h:ProInv x y lz0 n k) (r:RowInv y lz0 lz (nth x k) n k y.length c) (hn:k + y.length < n):ProInv x y (lz.set (k + y.length) c) n (k + 1):=by
 have hl:=r.len
 refine ⟨by simp [hl],r.dig.set _ r.c0 r.c1,fun m hm => ?_,?_⟩
 ·rw [nth_set (by omega),if_neg (by omega),r.old m (by omega)]; exact h.zero m (by omega)
 ·have h1:=r.val
  have h2:=h.val
  rw [List.take_of_length_le (Nat.le_refl _)] at h1
  rw [v32_set (by omega),r.old _ (Nat.le_refl _),h.zero _ (Nat.le_refl _),v32_take_succ]
  grind
structure DigN (w:World) (B:Nat) (ao:Option Addr) (n c:Nat) (x:Int):Prop where
 ex:∃ b o d,d.length=n/\n<=c/\Dig32 d/\nlen d=d.length/\At w ao b o d/\v32 d=x/\(d=[]\/B<=b)
theorem DigN.o {w:World} {B:Nat} {ao:Option Addr} {n c:Nat} {x:Int} (h:DigN w B ao n c x):DigO w ao n c x:=by
 obtain ⟨b,o,d,h1,h2,h3,h4,h5,h6,_⟩:=h.ex
 exact ⟨b,o,d,h1,h2,h3,h4,h5,h6⟩
theorem DigN.keep {w w':World} {B:Nat} {ao:Option Addr} {n c:Nat} {x:Int} (h:DigN w B ao n c x) (hb:Below w.heap.size w w'):DigN w' B ao n c x:=by
 obtain ⟨b,o,d,h1,h2,h3,h4,h5,h6,h7⟩:=h.ex
 exact ⟨b,o,d,h1,h2,h3,h4,h5.keep hb,h6,h7⟩
theorem DigN.store {w:World} {B g i:Nat} {ao:Option Addr} {n c:Nat} {x:Int} (h:DigN w B ao n c x) (hg:g < B) (u:Value):DigN (w.setCell ⟨g,i,none⟩ u) B ao n c x:=by
 obtain ⟨b,o,d,h1,h2,h3,h4,h5,h6,h7⟩:=h.ex
 refine ⟨b,o,d,h1,h2,h3,h4,h5.wr ((Wr.refl g i 1 w).setCell (by omega) (by omega) u) ?_,h6,h7⟩
 rcases h7 with e | e
 ·exact .inl e
 ·exact .inr (by omega)
theorem DigN.mono {w:World} {B B':Nat} {ao:Option Addr} {n c:Nat} {x:Int} (h:DigN w B ao n c x) (hB:B'<=B):DigN w B' ao n c x:=by
 obtain ⟨b,o,d,h1,h2,h3,h4,h5,h6,h7⟩:=h.ex
 refine ⟨b,o,d,h1,h2,h3,h4,h5,h6,?_⟩
 rcases h7 with e | e
 ·exact .inl e
 ·exact .inr (by omega)
end
section
open Go.RowKit Lim
theorem At.set0 {w:World} {ao:Option Addr} {b:Nat} {l:List Int} (k:At w ao b 0 l) {i:Nat} (hi:i < l.length) (x:Int):At (w.setCell ⟨b,i,none⟩ (.int .u64 x)) ao b 0 (l.set i x):=by
 have:=k.setCell hi x
 rwa [Nat.zero_add] at this
theorem rAdd {w:World} {ao ao':Option Addr} {n c n' c':Nat} {x y:Int} (h:NatA w ao n c x) (h':NatA w ao' n' c' y) (hn:n<=137438953472) (hn':n'<=137438953472) :
  Calls Tryz.prog 75 #[.slice ao n c,.slice ao' n' c'] w fun e w'=>∃ a k d,e=.returned (.slice a k d)/\NatO w' a k d (x + y)/\k<=2 * n + 2 * n' + 1/\Below w.heap.size w w':=by
 go_enter Tryz.func75,Tryz.ntmps75
 go_wp2_with fail
 refine (rDigits h (by omega)).mono ?_
 rintro e w1 ⟨a1,k1,d1,rfl,O1,hk1,hB⟩
 have HB:=hB
 replace h':=h'.keep hB
 clear hB
 go_wp2_with fail
 refine (rDigits h' (by omega)).mono ?_
 rintro e w2 ⟨a2,k2,d2,rfl,O2,hk2,hB⟩
 replace O1:=O1.keep hB
 replace HB:=joinB HB hB
 clear hB h h'
 obtain ⟨b1,o1,l1,hl1,hc1,D1,N1,A1,rfl⟩:=O1.ex
 obtain ⟨b2,o2,l2,hl2,hc2,D2,N2,A2,rfl⟩:=O2.ex
 clear O1 O2
 have hne1:l1=[]\/b1≠w2.heap.size:=by
  rcases A1.lt with e | e
  ·exact .inl e
  ·exact .inr (by omega)
 have hne2:l2=[]\/b2≠w2.heap.size:=by
  rcases A2.lt with e | e
  ·exact .inl e
  ·exact .inr (by omega)
 obtain ⟨m,hm,hm1,hm2,hm3⟩:∃ m:Nat,Hid ((k1 < k2->m=k2 + 1)/\(¬ k1 < k2->m=k1 + 1))/\k1 < m/\k2 < m/\m<=k1 + k2 + 1:=by
  by_cases e:k1 < k2
  ·exact ⟨k2 + 1,⟨fun _=>rfl,fun h=>absurd e h⟩,by omega,by omega,by omega⟩
  ·exact ⟨k1 + 1,⟨fun h=>absurd h e,fun _=>rfl⟩,by omega,by omega,by omega⟩
 go_wp2_with (at_make; have hmm:=hm.out; refine wpList_makeR rfl _ _ rfl m m _ _ rfl rfl (by omega) (by omega) (Nat.le_refl _) (by omega) ?_; clear hmm; intro w3 hrow hbel hsz)
 all_goals
  have hmm:=hm.out
  first
   | have hm4:m<=k2 + 1/\k2 + 1<=m:=by omega
   | have hm4:m<=k1 + 1/\k1 + 1<=m:=by omega
  obtain ⟨hm5,hm6⟩:=hm4
  clear hmm
  go_loopw [9,10] (fun tc ti wr=>∃ (k:Nat) (c:Int) (lz:List Int),k<=m/\ti=.int .i64 k/\tc=.int .u64 c/\SumInv l1 l2 lz m k c/\At wr (some ⟨w2.heap.size,0,none⟩) w2.heap.size 0 lz/\Wr w2.heap.size 0 m w3 wr) (fun _ ti _=>m - (intOf ti).toNat)
  case atStart=>exact ⟨0,0,_,Nat.zero_le _,rfl,rfl,⟨by simp,dig_zero _,by decide,by decide,by simp [v32]⟩,hrow.at,Wr.refl _ _ _ _⟩
  case round =>
   obtain ⟨k,c,lz,hk,rfl,rfl,hinv,hat,hwr⟩:=hrel
   by_cases hlt:k < m
   ·have hlen:=hinv.len
    have hfr:=hwr.free (hrow.free 0 m) k (by omega)
    have hcz:=hat.cell k (by omega)
    rw [Nat.zero_add] at hfr hcz
    have hk0:(k:Int) < m:=by omega
    have HA:=(show Hid _ from hat)
    have HW:=(show Hid _ from hwr)
    by_cases hx:k < k1
    ·by_cases hy:k < k2
     ·have p1:=D1.nth k
      have p2:=D2.nth k
      rcases A1.loc with e | rfl
      ·subst e; simp at hl1; omega
      have q1:=((A1.keep hbel).wr hwr hne1).cell k (by omega)
      have hx0:(k:Int) < k1:=by omega
      rcases A2.loc with e | rfl
      ·subst e; simp at hl2; omega
      have q2:=((A2.keep hbel).wr hwr hne2).cell k (by omega)
      have hy0:(k:Int) < k2:=by omega
      have HS:Hid _:=(show Hid _ from hinv.step hlt D1 D2 (s:=c + nth l1 k + nth l2 k) rfl)
      have c0:=hinv.c0
      have c1:=hinv.c1
      have hand:=and32 (c + nth l1 k + nth l2 k) (by omega) (by omega)
      clear hinv A1 A2 hat hwr hne1 hne2 hrow D1 D2 N1 N2 hl1 hl2
      generalize nth l1 k=g1 at *
      generalize nth l2 k=g2 at *
      go_wp2
      all_goals exact ⟨⟨k + 1,_,_,by omega,by go_num,rfl,HS.out,HA.out.set0 (by omega) _,HW.out.setCell (by omega) (by omega) _⟩,by simp [intOf]; omega⟩
     ·have p1:=D1.nth k
      rcases A1.loc with e | rfl
      ·subst e; simp at hl1; omega
      have q1:=((A1.keep hbel).wr hwr hne1).cell k (by omega)
      have hx0:(k:Int) < k1:=by omega
      have hy0:¬ (k:Int) < k2:=by omega
      have HS:Hid _:=(show Hid _ from hinv.step hlt D1 D2 (s:=c + nth l1 k) (by rw [nth_ge (l:=l2) (by omega)]; omega))
      have c0:=hinv.c0
      have c1:=hinv.c1
      have hand:=and32 (c + nth l1 k) (by omega) (by omega)
      clear hinv A1 A2 hat hwr hne1 hne2 hrow D1 D2 N1 N2 hl1 hl2
      generalize nth l1 k=g1 at *
      go_wp2
      all_goals exact ⟨⟨k + 1,_,_,by omega,by go_num,rfl,HS.out,HA.out.set0 (by omega) _,HW.out.setCell (by omega) (by omega) _⟩,by simp [intOf]; omega⟩
    ·by_cases hy:k < k2
     ·have p2:=D2.nth k
      have hx0:¬ (k:Int) < k1:=by omega
      rcases A2.loc with e | rfl
      ·subst e; simp at hl2; omega
      have q2:=((A2.keep hbel).wr hwr hne2).cell k (by omega)
      have hy0:(k:Int) < k2:=by omega
      have HS:Hid _:=(show Hid _ from hinv.step hlt D1 D2 (s:=c + nth l2 k) (by rw [nth_ge (l:=l1) (by omega)]; omega))
      have c0:=hinv.c0
      have c1:=hinv.c1
      have hand:=and32 (c + nth l2 k) (by omega) (by omega)
      clear hinv A1 A2 hat hwr hne1 hne2 hrow D1 D2 N1 N2 hl1 hl2
      generalize nth l2 k=g2 at *
      go_wp2
      all_goals exact ⟨⟨k + 1,_,_,by omega,by go_num,rfl,HS.out,HA.out.set0 (by omega) _,HW.out.setCell (by omega) (by omega) _⟩,by simp [intOf]; omega⟩
     ·skip
      have hx0:¬ (k:Int) < k1:=by omega
      have hy0:¬ (k:Int) < k2:=by omega
      have HS:Hid _:=(show Hid _ from hinv.step hlt D1 D2 (s:=c) (by rw [nth_ge (l:=l1) (by omega),nth_ge (l:=l2) (by omega)]; omega))
      have c0:=hinv.c0
      have c1:=hinv.c1
      have hand:=and32 (c) (by omega) (by omega)
      clear hinv A1 A2 hat hwr hne1 hne2 hrow D1 D2 N1 N2 hl1 hl2
      go_wp2
      all_goals exact ⟨⟨k + 1,_,_,by omega,by go_num,rfl,HS.out,HA.out.set0 (by omega) _,HW.out.setCell (by omega) (by omega) _⟩,by simp [intOf]; omega⟩
   ·have hkm:k=m:=by omega
    subst hkm
    have hv:=hinv.fin D1 D2 (by omega) (by omega)
    have hlen:=hinv.len
    have hb3:=hbel.trans (hwr.below (Nat.le_refl _))
    have t:=number_any (some ⟨w2.heap.size,0,none⟩) k k w2.heap.size 0 lz wr hlen (Nat.le_refl _) (by omega) hinv.dig hat
    rw [hv] at t
    clear hinv hat hwr hrow hbel hv A1 A2 hne1 hne2
    go_wp2_with fail
    refine t.mono ?_
    rintro e w5 ⟨v,r,rfl,hnw,hI,hlr,hB5⟩
    obtain ⟨a,d,rfl,hO⟩:=hnw.o hI
    go_wp2
    go_ret
    exact ⟨a,_,d,rfl,hO,by omega,joinB (joinB HB hb3) hB5⟩
end
section
open Go.RowKit Lim
theorem rtake {w:World} {ao ao':Option Addr} {n c n' c':Nat} {x y:Int} (h:DigO w ao n c x) (h':DigO w ao' n' c' y) (hn:n<=1099511627776) (hn':n'<=1099511627776) (hle:y<=x) :
  Calls Tryz.prog 147 #[.slice ao n c,.slice ao' n' c'] w fun e w'=>∃ a k d,e=.returned (.slice (some a) k d)/\DigN w' w.heap.size (some a) k d (x - y)/\k<=n/\Below w.heap.size w w':=by
 obtain ⟨b1,o1,l1,hl1,hc1,D1,N1,A1,rfl⟩:=h.ex
 obtain ⟨b2,o2,l2,hl2,hc2,D2,N2,A2,rfl⟩:=h'.ex
 clear h h'
 have hnn:n'<=n:=by
  rcases Nat.lt_or_ge n n' with e | e
  ·have:=v32_len D1 D2 N2 (by omega); omega
  ·exact e
 have hne1:l1=[]\/b1≠w.heap.size:=by
  rcases A1.lt with e | e
  ·exact .inl e
  ·exact .inr (by omega)
 have hne2:l2=[]\/b2≠w.heap.size:=by
  rcases A2.lt with e | e
  ·exact .inl e
  ·exact .inr (by omega)
 obtain ⟨k2,hk2⟩:∃ k2,k2=n':=⟨_,rfl⟩
 subst hk2
 go_enter Tryz.func147,Tryz.ntmps147
 go_wp2_with (at_make; refine wpList_makeR rfl _ _ rfl n n _ _ rfl rfl rfl rfl (Nat.le_refl _) (by omega) ?_; intro w3 hrow hbel hsz)
 go_loopw [6,7] (fun tc ti wr=>∃ (k:Nat) (c:Int) (lz:List Int),k<=n/\ti=.int .i64 k/\tc=.int .u64 c/\DifInv l1 l2 lz n k c/\At wr (some ⟨w.heap.size,0,none⟩) w.heap.size 0 lz/\Wr w.heap.size 0 n w3 wr) (fun _ ti _=>n - (intOf ti).toNat)
 case atStart=>exact ⟨0,0,_,Nat.zero_le _,rfl,rfl,⟨by simp,dig_zero _,by decide,by decide,by simp [v32]⟩,hrow.at,Wr.refl _ _ _ _⟩
 case round =>
  obtain ⟨k,c,lz,hk,rfl,rfl,hinv,hat,hwr⟩:=hrel
  by_cases hlt:k < n
  ·have hlen:=hinv.len
   have hfr:=hwr.free (hrow.free 0 n) k (by omega)
   have hcz:=hat.cell k (by omega)
   rw [Nat.zero_add] at hfr hcz
   have hk0:(k:Int) < n:=by omega
   have p1:=D1.nth k
   have c0':=hinv.c0
   have c1':=hinv.c1
   have HW:=(show Hid _ from hwr)
   rcases A1.loc with e | rfl
   ·subst e; simp at hl1; omega
   have q1:=((A1.keep hbel).wr hwr hne1).cell k (by omega)
   by_cases hy:k < k2
   ·by_cases hlb:nth l1 k < c + nth l2 k
    ·skip
     rcases A2.loc with e | rfl
     ·subst e; simp at hl2; omega
     have q2:=((A2.keep hbel).wr hwr hne2).cell k (by omega)
     have hy0:(k:Int) < k2:=by omega
     have p2:=D2.nth k
     have hb1:nth l1 k < c + nth l2 k:=hlb
     have hA3:=(((hat.set0 (i:=k) (by omega) (nth l1 k)).set0 (i:=k) (by simp only [List.length_set]; omega) (nth l1 k + 4294967295 + 1)).set0 (i:=k) (by simp only [List.length_set]; omega) (nth l1 k + 4294967295 + 1 - (c + nth l2 k)))
     rw [List.set_set,List.set_set] at hA3
     have HA:=(show Hid _ from hA3)
     clear hA3
     have HS:Hid _:=(show Hid _ from hinv.step hlt (s:=c + nth l2 k) (r:=nth l1 k + 4294967295 + 1 - (c + nth l2 k)) (c':=1) rfl (by decide) (by omega) (by omega) (by omega))
     have c0:=hinv.c0
     have c1:=hinv.c1
     clear hinv A1 A2 hat hwr hne1 hne2 hrow D1 D2 N1 N2 hl1 hl2 hlb
     generalize nth l1 k=g1 at *
     generalize nth l2 k=g2 at *
     go_wp2
     exact ⟨⟨k + 1,_,_,by omega,by go_num,rfl,HS.out,HA.out,(((HW.out.setCell (by omega) (by omega) _).setCell (by omega) (by omega) _).setCell (by omega) (by omega) _)⟩,by simp [intOf]; omega⟩
    ·skip
     rcases A2.loc with e | rfl
     ·subst e; simp at hl2; omega
     have q2:=((A2.keep hbel).wr hwr hne2).cell k (by omega)
     have hy0:(k:Int) < k2:=by omega
     have p2:=D2.nth k
     have hb1:¬ nth l1 k < c + nth l2 k:=hlb
     have hA3:=((hat.set0 (i:=k) (by omega) (nth l1 k)).set0 (i:=k) (by simp only [List.length_set]; omega) (nth l1 k - (c + nth l2 k)))
     rw [List.set_set] at hA3
     have HA:=(show Hid _ from hA3)
     clear hA3
     have HS:Hid _:=(show Hid _ from hinv.step hlt (s:=c + nth l2 k) (r:=nth l1 k - (c + nth l2 k)) (c':=0) rfl (by decide) (by omega) (by omega) (by omega))
     have c0:=hinv.c0
     have c1:=hinv.c1
     clear hinv A1 A2 hat hwr hne1 hne2 hrow D1 D2 N1 N2 hl1 hl2 hlb
     generalize nth l1 k=g1 at *
     generalize nth l2 k=g2 at *
     go_wp2
     exact ⟨⟨k + 1,_,_,by omega,by go_num,rfl,HS.out,HA.out,((HW.out.setCell (by omega) (by omega) _).setCell (by omega) (by omega) _)⟩,by simp [intOf]; omega⟩
   ·by_cases hlb:nth l1 k < c
    ·skip
     have hy0:¬ (k:Int) < k2:=by omega
     have hb1:nth l1 k < c:=hlb
     have hA3:=(((hat.set0 (i:=k) (by omega) (nth l1 k)).set0 (i:=k) (by simp only [List.length_set]; omega) (nth l1 k + 4294967295 + 1)).set0 (i:=k) (by simp only [List.length_set]; omega) (nth l1 k + 4294967295 + 1 - (c)))
     rw [List.set_set,List.set_set] at hA3
     have HA:=(show Hid _ from hA3)
     clear hA3
     have HS:Hid _:=(show Hid _ from hinv.step hlt (s:=c) (r:=nth l1 k + 4294967295 + 1 - (c)) (c':=1) (by rw [nth_ge (l:=l2) (by omega)]; omega) (by decide) (by omega) (by omega) (by omega))
     have c0:=hinv.c0
     have c1:=hinv.c1
     clear hinv A1 A2 hat hwr hne1 hne2 hrow D1 D2 N1 N2 hl1 hl2 hlb
     generalize nth l1 k=g1 at *
     go_wp2
     exact ⟨⟨k + 1,_,_,by omega,by go_num,rfl,HS.out,HA.out,(((HW.out.setCell (by omega) (by omega) _).setCell (by omega) (by omega) _).setCell (by omega) (by omega) _)⟩,by simp [intOf]; omega⟩
    ·skip
     have hy0:¬ (k:Int) < k2:=by omega
     have hb1:¬ nth l1 k < c:=hlb
     have hA3:=((hat.set0 (i:=k) (by omega) (nth l1 k)).set0 (i:=k) (by simp only [List.length_set]; omega) (nth l1 k - (c)))
     rw [List.set_set] at hA3
     have HA:=(show Hid _ from hA3)
     clear hA3
     have HS:Hid _:=(show Hid _ from hinv.step hlt (s:=c) (r:=nth l1 k - (c)) (c':=0) (by rw [nth_ge (l:=l2) (by omega)]; omega) (by decide) (by omega) (by omega) (by omega))
     have c0:=hinv.c0
     have c1:=hinv.c1
     clear hinv A1 A2 hat hwr hne1 hne2 hrow D1 D2 N1 N2 hl1 hl2 hlb
     generalize nth l1 k=g1 at *
     go_wp2
     exact ⟨⟨k + 1,_,_,by omega,by go_num,rfl,HS.out,HA.out,((HW.out.setCell (by omega) (by omega) _).setCell (by omega) (by omega) _)⟩,by simp [intOf]; omega⟩
  ·have hkm:k=n:=by omega
   subst hkm
   have hv:=hinv.fin D1 D2 (by omega) (by omega) hle
   have hlen:=hinv.len
   have hb3:=hbel.trans (hwr.below (Nat.le_refl _))
   have t:=refTrim_any (some ⟨w.heap.size,0,none⟩) k k lz wr hlen (Nat.le_refl _) (by omega) hat.cells
   have HO:DigN wr w.heap.size (some ⟨w.heap.size,0,none⟩) (nlen lz) k (v32 l1 - v32 l2):=⟨_,0,norm lz,norm_length lz,by have:=nlen_le lz; omega,hinv.dig.take _,nlen_norm lz,hat.sub _,by rw [v32_norm,hv],.inr (Nat.le_refl _)⟩
   have hle2:=nlen_le lz
   clear hinv hat hwr hrow hbel hv A1 A2 hne1 hne2
   generalize nlen lz=m at *
   go_wp2_with fail
   refine t.mono ?_
   rintro e w5 ⟨rfl,rfl⟩
   go_wp2
   go_ret
   exact ⟨_,m,k,rfl,HO,by omega,hb3⟩
end
section
open Go.RowKit Lim
end
section
open Go.RowKit Lim
theorem rMul {w:World} {ao ao':Option Addr} {n c n' c':Nat} {x y:Int} (h:NatA w ao n c x) (h':NatA w ao' n' c' y) (hn:n<=137438953472) (hn':n'<=137438953472) :
  Calls Tryz.prog 65 #[.slice ao n c,.slice ao' n' c'] w fun e w'=>∃ a k d,e=.returned (.slice a k d)/\NatO w' a k d (x * y)/\k<=2 * n + 2 * n'/\Below w.heap.size w w':=by
 go_enter Tryz.func65,Tryz.ntmps65
 go_wp2_with fail
 refine (rDigits h (by omega)).mono ?_
 rintro e w1 ⟨a1,k1,d1,rfl,O1,hk1,hB⟩
 have HB:=hB
 replace h':=h'.keep hB
 clear hB
 go_wp2_with fail
 refine (rDigits h' (by omega)).mono ?_
 rintro e w2 ⟨a2,k2,d2,rfl,O2,hk2,hB⟩
 replace O1:=O1.keep hB
 replace HB:=joinB HB hB
 clear hB h h'
 obtain ⟨b1,o1,l1,hl1,hc1,D1,N1,A1,rfl⟩:=O1.ex
 obtain ⟨b2,o2,l2,hl2,hc2,D2,N2,A2,rfl⟩:=O2.ex
 clear O1 O2
 have hne1:l1=[]\/b1≠w2.heap.size:=by
  rcases A1.lt with e | e
  ·exact .inl e
  ·exact .inr (by omega)
 have hne2:l2=[]\/b2≠w2.heap.size:=by
  rcases A2.lt with e | e
  ·exact .inl e
  ·exact .inr (by omega)
 obtain ⟨m,hm1,hm2⟩:∃ m:Nat,m<=k1 + k2/\k1 + k2<=m:=⟨k1 + k2,Nat.le_refl _,Nat.le_refl _⟩
 go_wp2_with (at_make; refine wpList_makeR rfl _ _ rfl m m _ _ rfl rfl (by omega) (by omega) (Nat.le_refl _) (by omega) ?_; intro w3 hrow hbel hsz)
 have B1:=A1.keep hbel
 have B2:=A2.keep hbel
 clear A1 A2
 have hat0:=hrow.at
 have hfr0:=hrow.free 0 m
 clear hrow
 go_loopw [8] (fun ti wr=>∃ (k:Nat) (lz:List Int),k<=k1/\ti=.int .i64 k/\ProInv l1 l2 lz m k/\At wr (some ⟨w2.heap.size,0,none⟩) w2.heap.size 0 lz/\Wr w2.heap.size 0 m w3 wr) (fun ti _=>k1 - (intOf ti).toNat)
 case atStart=>exact ⟨0,_,Nat.zero_le _,rfl,⟨by simp,dig_zero _,fun i _=>by simp [nth,List.getElem?_replicate]; split<;>rfl,by simp [v32,v32_zero]⟩,hat0,Wr.refl _ _ _ _⟩
 case round =>
  clear hat0
  obtain ⟨k,lz0,hk,rfl,hpro,hat,hwr⟩:=hrel
  obtain ⟨wo,rfl⟩:∃ wo:World,wo=wr:=⟨_,rfl⟩
  by_cases hlt:k < k1
  ·have hlen0:=hpro.len
   rcases B1.loc with e | rfl
   ·subst e; simp at hl1; omega
   have hx:=D1.nth k
   have hk0:(k:Int) < k1:=by omega
   have hd0:=hpro.dig
   have HP:Hid (∀ lz c,RowInv l2 lz0 lz (nth l1 k) m k k2 c->ProInv l1 l2 (lz.set (k + k2) c) m (k + 1)):=fun lz c r=>by
    subst hl2
    exact hpro.row r (by omega)
   clear hpro
   go_wp2_with fail
   go_loopw [9,10] (fun tc tj wr=>∃ (j:Nat) (c:Int) (lz:List Int),j<=k2/\tj=.int .i64 j/\tc=.int .u64 c/\RowInv l2 lz0 lz (nth l1 k) m k j c/\At wr (some ⟨w2.heap.size,0,none⟩) w2.heap.size 0 lz/\Wr w2.heap.size 0 m w3 wr) (fun _ tj _=>k2 - (intOf tj).toNat)
   case atStart=>exact ⟨0,0,lz0,Nat.zero_le _,rfl,rfl,⟨hlen0,hd0,by decide,by decide,fun _ _=>rfl,by simp [v32]⟩,hat,hwr⟩
   case round =>
    clear hat hwr hlen0
    obtain ⟨j,c,lz,hj,rfl,rfl,hinv,hat,hwr⟩:=hrel
    have hlen:=hinv.len
    by_cases hlt2:j < k2
    ·rcases B2.loc with e | rfl
     ·subst e; simp at hl2; omega
     have hj0:(j:Int) < k2:=by omega
     have hy:=D2.nth j
     have hz:=hinv.dig.nth (k + j)
     have c0:=hinv.c0
     have c1:=hinv.c1
     obtain ⟨r1,r2,r3,r4⟩:=row_room hz hx hy ⟨c0,c1⟩
     have q1:=(B1.wr hwr hne1).cell k (by omega)
     have q2:=(B2.wr hwr hne2).cell j (by omega)
     have q3:=hat.cell (k + j) (by omega)
     have hfr:=hwr.free hfr0 (k + j) (by omega)
     rw [Nat.zero_add] at q3 hfr
     have HS:=(show Hid _ from hinv.step (by omega) hx D2 rfl)
     have hand:=and32 (nth lz (k + j) + nth l1 k * nth l2 j + c) r3 r4
     have HA:=(show Hid _ from hat)
     have HW:=(show Hid _ from hwr)
     have hkj:(k:Int) + j < m:=by omega
     clear hinv hat hwr B1 B2 hne1 hne2 hfr0 D1 D2 N1 N2 hl1 hl2 HP hd0
     generalize nth l1 k=g1 at *
     generalize nth l2 j=g2 at *
     generalize nth lz (k + j)=g3 at *
     go_wp2_with fail
     go_quiet (fail)
     go_wp2
     all_goals exact ⟨⟨j + 1,_,_,by omega,by go_num,rfl,HS.out,(HA.out.drewN _).set0 (by omega) _,(HW.out.drewN _).setCell (by omega) (by omega) _⟩,by simp [intOf]; omega⟩
    ·have hjk:j=k2:=by omega
     subst hjk
     have hfr:=hwr.free hfr0 (k + j) (by omega)
     have q3:=hat.cell (k + j) (by omega)
     rw [Nat.zero_add] at q3 hfr
     have HS:=(show Hid _ from HP.out lz c hinv)
     have HA:=(show Hid _ from hat)
     have HW:=(show Hid _ from hwr)
     have hkj:(k:Int) + j < m:=by omega
     clear hinv hat hwr B1 B2 hne1 hne2 hfr0 D1 D2 N1 N2 hl1 hl2 HP hd0
     go_wp2
     all_goals exact ⟨⟨k + 1,_,by omega,by go_num,HS.out,HA.out.set0 (by omega) _,HW.out.setCell (by omega) (by omega) _⟩,by simp [intOf]; omega⟩
  ·have hkm:k=k1:=by omega
   subst hkm
   have hv:=hpro.val
   rw [List.take_of_length_le (by omega)] at hv
   have hlen:=hpro.len
   have hb3:=hbel.trans (hwr.below (Nat.le_refl _))
   have t:=number_any (some ⟨w2.heap.size,0,none⟩) m m w2.heap.size 0 lz0 wo hlen (Nat.le_refl _) (by omega) hpro.dig hat
   rw [hv] at t
   clear hpro hat hwr hbel hv B1 B2 hne1 hne2
   go_wp2_with fail
   refine t.mono ?_
   rintro e w5 ⟨v,r,rfl,hnw,hI,hlr,hB5⟩
   obtain ⟨a,d,rfl,hO⟩:=hnw.o hI
   go_wp2
   go_ret
   exact ⟨a,_,d,rfl,hO,by omega,joinB (joinB HB hb3) hB5⟩
end
end Go.Proofs.YtlbndpkdkdgggaaGreatDoor
