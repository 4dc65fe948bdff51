/- gleanlaw11.PowerOrder. -/
import Derived.Test.YtflenlpabmehoaaGreatJca
namespace Go.Proofs.YtflenlpabmehoaaGreat
namespace Pw
open Go.RowKit Go.Lib Pg Lim Gl Kv Bk
attribute [local go_sem] Oper.semAt_some
set_option maxRecDepth 100000
set_option maxHeartbeats 4000000
set_option linter.unusedVariables false
set_option linter.unusedSimpArgs false
structure TokA (w:World) (ao:Option Addr) (n b o:Nat) (tk:Nat->Int):Prop where
 ptr:0 < n->ao=some ⟨b,o,none⟩
 cell:∀ i,i < n->w.cell? ⟨b,o + i * 1,none⟩=some (.int .u64 (tk i))
 rng:∀ i,i < n->Uw (tk i)
 few:n<=9223372036854775807
theorem run_ixu {P:Program} {ρ:Operand->Value} {o:Oper} {w:World} {ao:Option Addr} (sz b off n c k:Nat) (hk:k < n) (hao:0 < n->ao=some ⟨b,off,none⟩) (ho:∃ T x y,o.op=.indexAddr T x y/\slT P T sz=true/\ρ x=.slice ao n c/\ρ y=.int .u64 (k:Int):=by exact ⟨_,_,_,rfl,by kernel_rfl,by kernel_rfl,by kernel_rfl⟩):(execOp ρ o).run P w=.ok (.value (.pointer (some ⟨b,off + k * sz,none⟩))) w:=by
 rw [hao (by omega)] at ho
 obtain ⟨T,x,y,h1,h2,h5,h6⟩:=ho
 have h7:(k:Int) < n:=by omega
 have h8:¬ ((k:Int) < 0):=by omega
 unfold slT at h2
 cases hu:P.underlying T with
 | none=>rw [hu] at h2; cases h2
 | some d =>
  rw [hu] at h2
  cases d with
  | slice e =>
   simp only [beq_iff_eq] at h2
   cases hi:P.info? e with
   | none=>rw [hi] at h2; cases h2
   | some i =>
    rw [hi] at h2
    simp at h2
    simp only [execOp,h1,h5,h6]
    go_simp
    simp [sizeOf,typeInfo,hi,h2]
  | _=>cases h2
theorem run_min2 {ρ:Operand->Value} {w:World} {o:Oper} {x y z:Int} (hz:(if y < x then y else x)=z) (ho:∃ p r,o.op=.call { callee:=.builtin .min,args:=#[p,r],argTypes:=#[3,3] }/\ρ p=.int .i64 x/\ρ r=.int .i64 y:=by exact ⟨_,_,rfl,by kernel_rfl,by kernel_rfl⟩):(execOp ρ o).run Tryz.prog w=.ok (.value (.int .i64 z)) w:=by
 obtain ⟨p,r,h,h1,h2⟩:=ho
 subst hz
 unfold execOp
 simp only [h,resolve,invoke,builtin,Sem.run_bind,Sem.run_pure,Result.andThen_ok,List.map_toArray,List.map_cons,List.map_nil,h1,h2]
 simp [Builtin.min_,Builtin.min2]
theorem run_max2 {ρ:Operand->Value} {w:World} {o:Oper} {x y z:Int} (hz:(if x < y then y else x)=z) (ho:∃ p r,o.op=.call { callee:=.builtin .max,args:=#[p,r],argTypes:=#[3,3] }/\ρ p=.int .i64 x/\ρ r=.int .i64 y:=by exact ⟨_,_,rfl,by kernel_rfl,by kernel_rfl⟩):(execOp ρ o).run Tryz.prog w=.ok (.value (.int .i64 z)) w:=by
 obtain ⟨p,r,h,h1,h2⟩:=ho
 subst hz
 unfold execOp
 simp only [h,resolve,invoke,builtin,Sem.run_bind,Sem.run_pure,Result.andThen_ok,List.map_toArray,List.map_cons,List.map_nil,h1,h2]
 simp [Builtin.max_,Builtin.max2]
theorem run_min3 {ρ:Operand->Value} {w:World} {o:Oper} {x y u z:Int} (hz:(if u < (if y < x then y else x) then u else (if y < x then y else x))=z) (ho:∃ p r s,o.op=.call { callee:=.builtin .min,args:=#[p,r,s],argTypes:=#[3,3,3] }/\ρ p=.int .i64 x/\ρ r=.int .i64 y/\ρ s=.int .i64 u:=by exact ⟨_,_,_,rfl,by kernel_rfl,by kernel_rfl,by kernel_rfl⟩):(execOp ρ o).run Tryz.prog w=.ok (.value (.int .i64 z)) w:=by
 obtain ⟨p,r,s,h,h1,h2,h3⟩:=ho
 subst hz
 unfold execOp
 simp only [h,resolve,invoke,builtin,Sem.run_bind,Sem.run_pure,Result.andThen_ok,List.map_toArray,List.map_cons,List.map_nil,h1,h2,h3]
 simp [Builtin.min_,Builtin.min2]
theorem UA.front {w:World} {B:Nat} {a:Option Addr} {n c k:Nat} {l:List Int} (h:UA w B (.slice a n c) l) (hk:k<=n):UA w B (.slice a k c) (l.take k):=by
 rcases h.ex with ⟨e,rfl⟩ | ⟨b,c',e,hB,hR⟩
 ·cases e
  obtain rfl:k=0:=by omega
  exact ⟨.inl ⟨rfl,by simp⟩⟩
 ·cases e
  have q:=hR.front hk
  refine ⟨.inr ⟨b,c,?_,hB,?_⟩⟩
  ·rw [List.length_take,Nat.min_eq_left hk]
  ·rw [List.length_take,Nat.min_eq_left hk,List.map_take]
   rw [Nat.mul_one] at q
   exact q
theorem run_sl {ρ:Operand->Value} {w:World} {o:Oper} {B:Nat} {a:Option Addr} {n c k:Nat} {l:List Int} (h:UA w B (.slice a n c) l) (hk:k<=n) (ho:∃ x y,o.op=.slice 40 x none (some y) none/\ρ x=.slice a n c/\ρ y=.int .i64 (k:Nat):=by exact ⟨_,_,rfl,by kernel_rfl,by kernel_rfl⟩):(execOp ρ o).run Tryz.prog w=.ok (.value (.slice a k c)) w:=by
 obtain ⟨x,y,h0,h1,h2⟩:=ho
 rcases h.ex with ⟨e,rfl⟩ | ⟨b,c',e,hB,hR⟩
 ·cases e
  obtain rfl:k=0:=by omega
  simp only [execOp,h0,h1,h2]
  go_simp
 ·cases e
  have hc:=hR.le
  have g1:¬ ((c:Int) < k):=by omega
  have g2:(k:Int)<=c:=by omega
  have g3:¬ ((k:Int) < 0):=by omega
  obtain ⟨i0,hi,hz0,hs0,hb0⟩:=info_parts (P:=Tryz.prog) KU.inf
  simp only [execOp,h0,h1,h2,Option.map]
  go_simp
theorem take_min (l:List Int) (k:Nat):l.take k=l.take (min k l.length):=by
 rcases Nat.lt_or_ge k l.length with h | h
 ·rw [Nat.min_eq_left (by omega)]
 ·rw [Nat.min_eq_right h,List.take_of_length_le h,List.take_length]
section
variable {B:Nat} {w:World} {K:Nat->Prop} {g:Nat} {E:Ents} {W:List Ents} {n N:Nat}
theorem top_n {m:Nat} (h:Sx B w K g E W n N) (hm:m<=1000) (po:Po E) (hN:N<=100000000) (hx:n + N<=2000000000000000000):Calls Tryz.prog 19 #[pg g,.int .i64 m] w (NumF B w K g E W n N m (((pks 10 105 E).map Prod.snd).take m)):=by
 have q:=top_y (m:=(m:Int)) h (by omega) po hN hx
 simpa using q
end
theorem powerOrder_walk {w:World} {ao:Option Addr} {n c pb po_:Nat} {an am:Int} {tk:Nat->Int} (SS:TokA w ao n pb po_ tk):Calls Tryz.prog 5 #[.slice ao n c,.int .i64 an,.int .i64 am] w fun e w'=>e=.returned (.bool true)/\Below w.heap.size w w':=by
 have BB:=Below.refl w.heap.size w
 have hfew:=SS.few
 refine gc_enter (n:=131) Tryz.func5 rfl (by kernel_rfl) (by kernel_rfl) ?_
 refine gc_seq ?_
 refine gc_reg ?_
 refine t 6 (.bool false) ?_
 refine gl_nil ?_
 refine ge_then ?_
 refine gc_seq ?_
 refine gc_seq ?_
 refine gc_reg ?_
 refine tc 15 9 #[] (known11) ?_
 rintro _ v1 ⟨rfl,B⟩
 refine ⟨_,rfl,?_⟩
 replace BB:=joinB BB B
 clear B
 refine t 16 (.bool false) ?_
 refine gl_nil ?_
 refine ge_then ?_
 refine gc_no ?_
 refine gc_skip ?_
 refine ge_then ?_
 refine gc_seq ?_
 refine gc_seq ?_
 refine gc_reg ?_
 refine t 17 (.slice ao n c) ?_
 refine t 18 (.int .i64 ((n:Nat):Int)) ?_
 by_cases c2:(200:Int) < ((n:Nat):Int)
 ·refine tq 19 (.bool (decide ((200:Int) < ((n:Nat):Int)))) (.bool true) (congrArg Value.bool (decide_eq_true c2)) ?_
  refine gl_nil ?_
  refine ge_then ?_
  refine gc_yes ?_
  refine gc_seq ?_
  refine gc_reg ?_
  refine t 6 (.bool true) ?_
  refine gl_nil ?_
  refine ge_then ?_
  refine gc_ret ?_
  refine ge_tr ?_
  refine ge_ret (.bool true) (rs1 6 (by kernel_rfl) (by kernel_rfl)) ?_
  exact ⟨rfl,BB⟩
 ·refine tq 19 (.bool (decide ((200:Int) < ((n:Nat):Int)))) (.bool false) (congrArg Value.bool (decide_eq_false c2)) ?_
  refine gl_nil ?_
  refine ge_then ?_
  refine gc_no ?_
  refine gc_skip ?_
  refine ge_then ?_
  refine gc_seq ?_
  refine gc_reg ?_
  obtain ⟨Bz,hBz⟩:∃ Bz,Bz=(v1).heap.size:=⟨_,rfl⟩
  have hwB:w.heap.size<=Bz:=by rw [hBz]; exact BB.size
  refine tc 20 10 #[] (snewP Bz hBz) ?_
  rintro _ v3 ⟨g0,K0,rfl,S0,hK0,B0⟩
  refine ⟨_,rfl,?_⟩
  replace BB:=joinB BB B0
  have A:=S0.at
  clear S0
  refine t 7 (pg g0) ?_
  refine gl_nil ?_
  refine ge_then ?_
  refine gc_seq ?_
  refine gc_seq ?_
  refine gc_reg ?_
  refine t 8 (.int .i64 0) ?_
  refine gl_nil ?_
  refine ge_then ?_
  refine gc_fr [(0,.slice ao n c),(1,.int .i64 an),(2,.int .i64 am),(6,.bool false),(7,pg g0),(8,.int .i64 0)] (by kernel_rfl) ?_
  refine gc_block ?_
  refine gc_loop (fun s=>n - s) (fun (s:Nat)=>[(0,.slice ao n c),(1,.int .i64 an),(2,.int .i64 am),(7,pg g0),(8,.int .i64 (s:Int))]) (fun s w'=>s<=n/\Below w.heap.size w w'/\∃ K E nn NN,Sx Bz w' K g0 E [] nn NN/\nn<=s * 10/\NN<=s * 10/\Po E/\Od tk s E) (0:Nat) ⟨Nat.zero_le _,BB,_,[],0,0,A.sx,Nat.zero_le _,Nat.zero_le _,po_nil,od_nil⟩ (by kernel_rfl) ?_
  clear BB
  clear A
  rintro i v4 ⟨hi,BB,K,E,nn,NN,S,hnn,hNN,po,od⟩
  have A:=S.at
  clear S
  have hwv:=BB.size
  refine gc_seq ?_
  refine gc_seq ?_
  refine gc_reg ?_
  refine t 21 (.int .i64 (i:Int)) ?_
  refine t 22 (.slice ao n c) ?_
  refine t 23 (.int .i64 ((n:Nat):Int)) ?_
  by_cases ci:(i:Int) < ((n:Nat):Int)
  ·have hk_i:i < n:=by omega
   refine tq 24 (.bool (decide ((i:Int) < ((n:Nat):Int)))) (.bool true) (congrArg Value.bool (decide_eq_true ci)) ?_
   refine gl_nil ?_
   refine ge_then ?_
   refine gc_yes ?_
   refine gc_skip ?_
   refine ge_then ?_
   refine gc_seq ?_
   refine gc_block ?_
   refine gc_reg ?_
   refine t 27 (pg g0) ?_
   refine t 28 (.int .i64 (i:Int)) ?_
   refine tq 29 (.int .u64 (IntKind.u64.wrap (i:Int))) (.int .u64 (i:Int)) (wu ⟨by omega,by omega⟩) ?_
   refine t 30 (.slice ao n c) ?_
   refine t 31 (.int .i64 (i:Int)) ?_
   refine tr 32 (pq pb (po_ + i * 1)) (run_ixa 1 pb po_ n c i (by omega) SS.ptr) ?_
   refine tr 33 (.int .u64 (tk i)) (run_ld64 (cellB BB (SS.cell i hk_i))) ?_
   refine tc 34 11 #[pg g0,.int .u64 (i:Int),.int .u64 (tk i)] (put_any (v:=(i:Int)) A.sx (SS.rng i hk_i) (by omega) (by omega)) ?_
   rintro _ v6 ⟨rfl,K5,S,hK,hC⟩
   refine ⟨_,rfl,?_⟩
   replace BB:=belowO BB hC (fun b hb=>Nat.le_trans hwB (A.sx.kb b hb))
   replace A:=A.op S hK hC
   clear S hK hC
   refine gl_nil ?_
   refine ge_bn ?_
   refine ge_then ?_
   refine gc_fr [(0,.slice ao n c),(1,.int .i64 an),(2,.int .i64 am),(7,pg g0),(8,.int .i64 (i:Int)),(21,.int .i64 (i:Int)),(22,.slice ao n c),(23,.int .i64 ((n:Nat):Int)),(24,.bool true),(27,pg g0),(28,.int .i64 (i:Int)),(29,.int .u64 (i:Int)),(30,.slice ao n c),(31,.int .i64 (i:Int)),(32,pq pb (po_ + i * 1)),(33,.int .u64 (tk i))] (by kernel_rfl) ?_
   refine gc_reg ?_
   refine t 25 (.int .i64 (i:Int)) ?_
   refine tq 26 (.int .i64 (IntKind.i64.wrap ((i:Int) + 1))) (.int .i64 ((i:Int) + 1)) (wi (by omega)) ?_
   refine t 8 (.int .i64 ((i:Int) + 1)) ?_
   refine gl_nil ?_
   exact ge_round (i + 1) (by show n - (i + 1) < n - i; omega) ⟨hk_i,BB,_,_,_,_,A.sx,by omega,by omega,po.put10 (SS.rng i hk_i) (nat_u (by omega)),od.put (fun j hj=>SS.rng j (by omega)) (by omega)⟩ (by kernel_rfl)
  ·refine tq 24 (.bool (decide ((i:Int) < ((n:Nat):Int)))) (.bool false) (congrArg Value.bool (decide_eq_false ci)) ?_
   refine gl_nil ?_
   refine ge_then ?_
   refine gc_no ?_
   refine gc_exit ?_
   refine ge_tx ?_
   refine ge_tx ?_
   refine ge_bx ?_
   refine ge_then ?_
   refine gc_seq ?_
   refine gc_reg ?_
   refine t 35 (pg g0) ?_
   refine t 36 (.slice ao n c) ?_
   refine t 37 (.int .i64 ((n:Nat):Int)) ?_
   have lg:=A.sx.sa.lt A.sx.sa.top
   refine tc 38 19 #[pg g0,.int .i64 ((n:Nat):Int)] (top_n (m:=n) A.sx (by omega) po (by omega) (by omega)) ?_
   rintro _ v7 ⟨tv,n5,rfl,UT,S,qn5a,qn5b,C⟩
   refine ⟨_,rfl,?_⟩
   have hC:=C.mono (fun b _ (e:b=g0)=>e▸A.sx.sa.top)
   replace BB:=belowO BB hC (fun b hb=>Nat.le_trans hwB (A.sx.kb b hb))
   replace A:=A.op S (fun _ h=>.inl h) hC
   clear S hC C
   have hin:i=n:=by omega
   rw [hin] at od
   obtain ⟨f,hLl,hf,ord⟩:=od.list A.sx.sa.rise (fun i hi=>SS.rng i hi) (by omega)
   rw [List.take_of_length_le (by omega)] at UT
   obtain ⟨lta,ltc,rfl⟩:=UT.shape
   rw [hLl] at UT ⊢
   obtain ⟨_,pt,hta,hcl0⟩:=UT.cells
   have hcl:∀ i,i < n->v7.cell? ⟨pt,0 + i * 1,none⟩=some (.int .u64 ((f i:Nat):Int)):=fun i hi=>by
    rw [hcl0 i hi]
    have q:=(hf i hi).1
    rw [List.getD,q]
    rfl
   clear UT hcl0
   refine t 9 (.slice lta n ltc) ?_
   refine gl_nil ?_
   refine ge_then ?_
   refine gc_seq ?_
   refine gc_seq ?_
   refine gc_reg ?_
   refine t 39 (.slice lta n ltc) ?_
   refine t 40 (.int .i64 ((n:Nat):Int)) ?_
   refine t 41 (.slice ao n c) ?_
   refine t 42 (.int .i64 ((n:Nat):Int)) ?_
   refine tq 43 (.bool (((n:Nat):Int) != ((n:Nat):Int))) (.bool false) (congrArg Value.bool (bne_self_eq_false _)) ?_
   refine gl_nil ?_
   refine ge_then ?_
   refine gc_fr [(0,.slice ao n c),(1,.int .i64 an),(2,.int .i64 am),(7,pg g0),(9,.slice lta n ltc),(43,.bool false)] (by kernel_rfl) ?_
   refine gc_no ?_
   refine gc_skip ?_
   refine ge_then ?_
   refine gc_seq ?_
   refine gc_seq ?_
   refine gc_reg ?_
   refine t 10 (.int .i64 0) ?_
   refine gl_nil ?_
   refine ge_then ?_
   refine gc_block ?_
   have BA:=BB
   have AA:=A.sx
   refine gc_loop (fun s=>n - s) (fun (s:Nat)=>[(0,.slice ao n c),(1,.int .i64 an),(2,.int .i64 am),(7,pg g0),(9,.slice lta n ltc),(10,.int .i64 (s:Int))]) (fun s w'=>s<=n/\Below v7.heap.size v7 w') (0:Nat) ⟨Nat.zero_le _,Below.refl _ _⟩ (by kernel_rfl) ?_
   clear BB
   clear A
   rintro i v8 ⟨hi,BV⟩
   refine gc_seq ?_
   refine gc_seq ?_
   refine gc_reg ?_
   refine t 44 (.int .i64 (i:Int)) ?_
   refine t 45 (.slice lta n ltc) ?_
   refine t 46 (.int .i64 ((n:Nat):Int)) ?_
   by_cases ci:(i:Int) < ((n:Nat):Int)
   ·have hk_i:i < n:=by omega
    refine tq 47 (.bool (decide ((i:Int) < ((n:Nat):Int)))) (.bool true) (congrArg Value.bool (decide_eq_true ci)) ?_
    refine gl_nil ?_
    refine ge_then ?_
    refine gc_yes ?_
    refine gc_skip ?_
    refine ge_then ?_
    refine gc_seq ?_
    refine gc_block ?_
    refine gc_seq ?_
    refine gc_seq ?_
    refine gc_reg ?_
    refine t 50 (.slice lta n ltc) ?_
    refine t 51 (.int .i64 (i:Int)) ?_
    refine tr 52 (pq pt (0 + i * 1)) (run_ixa 1 pt 0 n ltc i (by omega) hta) ?_
    refine tr 53 (.int .u64 ((f i:Nat):Int)) (run_ld64 (cellB BV (hcl i (by omega)))) ?_
    refine t 54 (.slice ao n c) ?_
    refine t 55 (.int .i64 ((n:Nat):Int)) ?_
    refine tq 56 (.int .u64 (IntKind.u64.wrap ((n:Nat):Int))) (.int .u64 ((n:Nat):Int)) (wu ⟨by omega,by omega⟩) ?_
    have t9:¬ (((n:Nat):Int)<=((f i:Nat):Int)):=by have q:=(hf i hk_i).2; omega
    refine tq 57 (.bool (decide (((n:Nat):Int)<=((f i:Nat):Int)))) (.bool false) (congrArg Value.bool (decide_eq_false t9)) ?_
    refine gl_nil ?_
    refine ge_then ?_
    refine gc_fr [(0,.slice ao n c),(1,.int .i64 an),(2,.int .i64 am),(7,pg g0),(9,.slice lta n ltc),(10,.int .i64 (i:Int)),(44,.int .i64 (i:Int)),(45,.slice lta n ltc),(46,.int .i64 ((n:Nat):Int)),(47,.bool true),(50,.slice lta n ltc),(51,.int .i64 (i:Int)),(52,pq pt (0 + i * 1)),(53,.int .u64 ((f i:Nat):Int)),(54,.slice ao n c),(55,.int .i64 ((n:Nat):Int)),(56,.int .u64 ((n:Nat):Int)),(57,.bool false)] (by kernel_rfl) ?_
    refine gc_no ?_
    refine gc_skip ?_
    refine ge_then ?_
    refine gc_seq ?_
    refine gc_reg ?_
    refine t 58 (.int .i64 (i:Int)) ?_
    by_cases c10:(0:Int) < (i:Int)
    ·refine tq 59 (.bool (decide ((0:Int) < (i:Int)))) (.bool true) (congrArg Value.bool (decide_eq_true c10)) ?_
     refine gl_nil ?_
     refine ge_then ?_
     refine gc_yes ?_
     refine gc_seq ?_
     replace BV:=BV.drew
     refine gc_draw (fun w'=>Below v7.heap.size v7 w') (fun _=>false) BV ?_
     refine z 0 60 (.slice lta n ltc) ?_
     refine z 1 61 (.int .i64 (i:Int)) ?_
     refine zq 2 62 (.int .i64 (IntKind.i64.wrap ((i:Int) - 1))) (.int .i64 ((i - 1:Nat):Int)) (by rw [IntKind.wrap_i64]; congr 1; omega) ?_
     refine zr 3 63 (pq pt (0 + (i - 1) * 1)) (fun _ h=>run_ixa 1 pt 0 n ltc (i - 1) (by omega) hta) ?_
     refine zr 4 64 (.int .u64 ((f (i - 1):Nat):Int)) (fun _ h=>run_ld64 (cellB h (hcl (i - 1) (by omega)))) ?_
     refine z 5 65 (.slice lta n ltc) ?_
     refine z 6 66 (.int .i64 (i:Int)) ?_
     refine zr 7 67 (pq pt (0 + i * 1)) (fun _ h=>run_ixa 1 pt 0 n ltc i (by omega) hta) ?_
     refine zr 8 68 (.int .u64 ((f i:Nat):Int)) (fun _ h=>run_ld64 (cellB h (hcl i (by omega)))) ?_
     refine z 9 11 (.int .u64 ((f (i - 1):Nat):Int)) ?_
     refine z 10 12 (.int .u64 ((f i:Nat):Int)) ?_
     refine gz_done ?_
     refine ge_then ?_
     refine gc_fr [(0,.slice ao n c),(1,.int .i64 an),(2,.int .i64 am),(7,pg g0),(9,.slice lta n ltc),(10,.int .i64 (i:Int)),(11,.int .u64 ((f (i - 1):Nat):Int)),(12,.int .u64 ((f i:Nat):Int)),(44,.int .i64 (i:Int)),(45,.slice lta n ltc),(46,.int .i64 ((n:Nat):Int)),(47,.bool true),(50,.slice lta n ltc),(51,.int .i64 (i:Int)),(52,pq pt (0 + i * 1)),(53,.int .u64 ((f i:Nat):Int)),(54,.slice ao n c),(55,.int .i64 ((n:Nat):Int)),(56,.int .u64 ((n:Nat):Int)),(57,.bool false),(58,.int .i64 (i:Int)),(59,.bool true),(60,.slice lta n ltc),(61,.int .i64 (i:Int)),(62,.int .i64 ((i - 1:Nat):Int)),(63,pq pt (0 + (i - 1) * 1)),(64,.int .u64 ((f (i - 1):Nat):Int)),(65,.slice lta n ltc),(66,.int .i64 (i:Int)),(67,pq pt (0 + i * 1)),(68,.int .u64 ((f i:Nat):Int))] (by kernel_rfl) ?_
     refine gc_seq ?_
     replace BV:=BV.drew
     refine gc_draw (fun w'=>Below v7.heap.size v7 w') (fun _=>false) BV ?_
     refine z 0 69 (.slice ao n c) ?_
     refine z 1 70 (.int .u64 ((f (i - 1):Nat):Int)) ?_
     refine zr 2 71 (pq pb (po_ + (f (i - 1)) * 1)) (fun _ h=>run_ixu 1 pb po_ n c (f (i - 1)) (hf (i - 1) (by omega)).2 SS.ptr) ?_
     refine zr 3 72 (.int .u64 (tk (f (i - 1)))) (fun _ h=>run_ld64 (cellB h (cellB BA (SS.cell (f (i - 1)) (hf (i - 1) (by omega)).2)))) ?_
     refine z 4 73 (.slice ao n c) ?_
     refine z 5 74 (.int .u64 ((f i:Nat):Int)) ?_
     refine zr 6 75 (pq pb (po_ + (f i) * 1)) (fun _ h=>run_ixu 1 pb po_ n c (f i) (hf i (by omega)).2 SS.ptr) ?_
     refine zr 7 76 (.int .u64 (tk (f i))) (fun _ h=>run_ld64 (cellB h (cellB BA (SS.cell (f i) (hf i (by omega)).2)))) ?_
     have t11:¬ ((tk (f (i - 1)):Int) < tk (f i)):=by have q:=ord (i - 1) (by omega); rw [show i - 1 + 1=i by omega] at q; omega
     refine zq 8 77 (.bool (decide ((tk (f (i - 1)):Int) < tk (f i)))) (.bool false) (congrArg Value.bool (decide_eq_false t11)) ?_
     refine z 9 78 (.bool false) ?_
     refine z 10 79 (.slice ao n c) ?_
     refine z 11 80 (.int .u64 ((f (i - 1):Nat):Int)) ?_
     refine zr 12 81 (pq pb (po_ + (f (i - 1)) * 1)) (fun _ h=>run_ixu 1 pb po_ n c (f (i - 1)) (hf (i - 1) (by omega)).2 SS.ptr) ?_
     refine zr 13 82 (.int .u64 (tk (f (i - 1)))) (fun _ h=>run_ld64 (cellB h (cellB BA (SS.cell (f (i - 1)) (hf (i - 1) (by omega)).2)))) ?_
     refine z 14 83 (.slice ao n c) ?_
     refine z 15 84 (.int .u64 ((f i:Nat):Int)) ?_
     refine zr 16 85 (pq pb (po_ + (f i) * 1)) (fun _ h=>run_ixu 1 pb po_ n c (f i) (hf i (by omega)).2 SS.ptr) ?_
     refine zr 17 86 (.int .u64 (tk (f i))) (fun _ h=>run_ld64 (cellB h (cellB BA (SS.cell (f i) (hf i (by omega)).2)))) ?_
     by_cases c12:(tk (f (i - 1)):Int)=tk (f i)
     ·refine zq 18 87 (.bool ((tk (f (i - 1)):Int) == tk (f i))) (.bool true) (congrArg Value.bool (beq_iff_eq.2 c12)) ?_
      refine z 19 88 (.bool true) ?_
      refine z 20 89 (.int .u64 ((f (i - 1):Nat):Int)) ?_
      refine z 21 90 (.int .u64 ((f i:Nat):Int)) ?_
      have t13:¬ (((f i:Nat):Int)<=((f (i - 1):Nat):Int)):=by have q:=ord (i - 1) (by omega); rw [show i - 1 + 1=i by omega] at q; omega
      refine zq 22 91 (.bool (decide (((f i:Nat):Int)<=((f (i - 1):Nat):Int)))) (.bool false) (congrArg Value.bool (decide_eq_false t13)) ?_
      refine z 23 92 (.bool false) ?_
      refine z 24 93 (.bool false) ?_
      refine gz_done ?_
      refine ge_then ?_
      refine gc_fr [(0,.slice ao n c),(1,.int .i64 an),(2,.int .i64 am),(7,pg g0),(9,.slice lta n ltc),(10,.int .i64 (i:Int)),(11,.int .u64 ((f (i - 1):Nat):Int)),(12,.int .u64 ((f i:Nat):Int)),(44,.int .i64 (i:Int)),(45,.slice lta n ltc),(46,.int .i64 ((n:Nat):Int)),(47,.bool true),(50,.slice lta n ltc),(51,.int .i64 (i:Int)),(52,pq pt (0 + i * 1)),(53,.int .u64 ((f i:Nat):Int)),(54,.slice ao n c),(55,.int .i64 ((n:Nat):Int)),(56,.int .u64 ((n:Nat):Int)),(57,.bool false),(58,.int .i64 (i:Int)),(59,.bool true),(60,.slice lta n ltc),(61,.int .i64 (i:Int)),(62,.int .i64 ((i - 1:Nat):Int)),(63,pq pt (0 + (i - 1) * 1)),(64,.int .u64 ((f (i - 1):Nat):Int)),(65,.slice lta n ltc),(66,.int .i64 (i:Int)),(67,pq pt (0 + i * 1)),(68,.int .u64 ((f i:Nat):Int)),(69,.slice ao n c),(70,.int .u64 ((f (i - 1):Nat):Int)),(71,pq pb (po_ + (f (i - 1)) * 1)),(72,.int .u64 (tk (f (i - 1)))),(73,.slice ao n c),(74,.int .u64 ((f i:Nat):Int)),(75,pq pb (po_ + (f i) * 1)),(76,.int .u64 (tk (f i))),(77,.bool false),(78,.bool false),(79,.slice ao n c),(80,.int .u64 ((f (i - 1):Nat):Int)),(81,pq pb (po_ + (f (i - 1)) * 1)),(82,.int .u64 (tk (f (i - 1)))),(83,.slice ao n c),(84,.int .u64 ((f i:Nat):Int)),(85,pq pb (po_ + (f i) * 1)),(86,.int .u64 (tk (f i))),(87,.bool true),(88,.bool true),(89,.int .u64 ((f (i - 1):Nat):Int)),(90,.int .u64 ((f i:Nat):Int)),(91,.bool false),(92,.bool false),(93,.bool false)] (by kernel_rfl) ?_
      refine gc_no ?_
      refine gc_skip ?_
      refine ge_bn ?_
      refine ge_then ?_
      refine gc_reg ?_
      refine t 48 (.int .i64 (i:Int)) ?_
      refine tq 49 (.int .i64 (IntKind.i64.wrap ((i:Int) + 1))) (.int .i64 ((i:Int) + 1)) (wi (by omega)) ?_
      refine t 10 (.int .i64 ((i:Int) + 1)) ?_
      refine gl_nil ?_
      exact ge_round (i + 1) (by show n - (i + 1) < n - i; omega) ⟨hk_i,BV⟩ (by kernel_rfl)
     ·refine zq 18 87 (.bool ((tk (f (i - 1)):Int) == tk (f i))) (.bool false) (congrArg Value.bool (beq_eq_false_iff_ne.2 c12)) ?_
      refine z 19 88 (.bool false) ?_
      refine zn 20 89 ?_
      refine zn 21 90 ?_
      refine zn 22 91 ?_
      refine z 23 92 (.bool false) ?_
      refine z 24 93 (.bool false) ?_
      refine gz_done ?_
      refine ge_then ?_
      refine gc_fr [(0,.slice ao n c),(1,.int .i64 an),(2,.int .i64 am),(7,pg g0),(9,.slice lta n ltc),(10,.int .i64 (i:Int)),(11,.int .u64 ((f (i - 1):Nat):Int)),(12,.int .u64 ((f i:Nat):Int)),(44,.int .i64 (i:Int)),(45,.slice lta n ltc),(46,.int .i64 ((n:Nat):Int)),(47,.bool true),(50,.slice lta n ltc),(51,.int .i64 (i:Int)),(52,pq pt (0 + i * 1)),(53,.int .u64 ((f i:Nat):Int)),(54,.slice ao n c),(55,.int .i64 ((n:Nat):Int)),(56,.int .u64 ((n:Nat):Int)),(57,.bool false),(58,.int .i64 (i:Int)),(59,.bool true),(60,.slice lta n ltc),(61,.int .i64 (i:Int)),(62,.int .i64 ((i - 1:Nat):Int)),(63,pq pt (0 + (i - 1) * 1)),(64,.int .u64 ((f (i - 1):Nat):Int)),(65,.slice lta n ltc),(66,.int .i64 (i:Int)),(67,pq pt (0 + i * 1)),(68,.int .u64 ((f i:Nat):Int)),(69,.slice ao n c),(70,.int .u64 ((f (i - 1):Nat):Int)),(71,pq pb (po_ + (f (i - 1)) * 1)),(72,.int .u64 (tk (f (i - 1)))),(73,.slice ao n c),(74,.int .u64 ((f i:Nat):Int)),(75,pq pb (po_ + (f i) * 1)),(76,.int .u64 (tk (f i))),(77,.bool false),(78,.bool false),(79,.slice ao n c),(80,.int .u64 ((f (i - 1):Nat):Int)),(81,pq pb (po_ + (f (i - 1)) * 1)),(82,.int .u64 (tk (f (i - 1)))),(83,.slice ao n c),(84,.int .u64 ((f i:Nat):Int)),(85,pq pb (po_ + (f i) * 1)),(86,.int .u64 (tk (f i))),(87,.bool false),(88,.bool false),(89,undef),(90,undef),(91,undef),(92,.bool false),(93,.bool false)] (by kernel_rfl) ?_
      refine gc_no ?_
      refine gc_skip ?_
      refine ge_bn ?_
      refine ge_then ?_
      refine gc_reg ?_
      refine t 48 (.int .i64 (i:Int)) ?_
      refine tq 49 (.int .i64 (IntKind.i64.wrap ((i:Int) + 1))) (.int .i64 ((i:Int) + 1)) (wi (by omega)) ?_
      refine t 10 (.int .i64 ((i:Int) + 1)) ?_
      refine gl_nil ?_
      exact ge_round (i + 1) (by show n - (i + 1) < n - i; omega) ⟨hk_i,BV⟩ (by kernel_rfl)
    ·refine tq 59 (.bool (decide ((0:Int) < (i:Int)))) (.bool false) (congrArg Value.bool (decide_eq_false c10)) ?_
     refine gl_nil ?_
     refine ge_then ?_
     refine gc_no ?_
     refine gc_skip ?_
     refine ge_bn ?_
     refine ge_then ?_
     refine gc_reg ?_
     refine t 48 (.int .i64 (i:Int)) ?_
     refine tq 49 (.int .i64 (IntKind.i64.wrap ((i:Int) + 1))) (.int .i64 ((i:Int) + 1)) (wi (by omega)) ?_
     refine t 10 (.int .i64 ((i:Int) + 1)) ?_
     refine gl_nil ?_
     exact ge_round (i + 1) (by show n - (i + 1) < n - i; omega) ⟨hk_i,BV⟩ (by kernel_rfl)
   ·refine tq 47 (.bool (decide ((i:Int) < ((n:Nat):Int)))) (.bool false) (congrArg Value.bool (decide_eq_false ci)) ?_
    refine gl_nil ?_
    refine ge_then ?_
    refine gc_no ?_
    refine gc_exit ?_
    refine ge_tx ?_
    refine ge_tx ?_
    refine ge_bx ?_
    refine ge_then ?_
    refine gc_seq ?_
    refine gc_reg ?_
    refine t 94 (.int .i64 an) ?_
    refine tc 95 27 #[.int .i64 an,.int .i64 210] (place_by an 210 (by decide) (by decide) _) ?_
    rintro _ v14 ⟨p1,hp1,rfl,hw⟩
    refine ⟨_,rfl,?_⟩
    subst hw
    have A:=(AA.keep BV).at
    have BB:=joinB BA BV
    clear BV
    refine t 96 (.int .i64 am) ?_
    refine tc 97 27 #[.int .i64 am,.int .i64 210] (place_by am 210 (by decide) (by decide) _) ?_
    rintro _ v15 ⟨p2,hp2,rfl,hw⟩
    refine ⟨_,rfl,?_⟩
    subst hw
    refine t 1 (.int .i64 ((p1:Nat):Int)) ?_
    refine t 2 (.int .i64 ((p2:Nat):Int)) ?_
    refine gl_nil ?_
    refine ge_then ?_
    refine gc_seq ?_
    refine gc_reg ?_
    refine t 98 (pg g0) ?_
    refine t 99 (.int .i64 ((p1:Nat):Int)) ?_
    refine t 100 (.int .i64 ((p2:Nat):Int)) ?_
    by_cases c16:p1<=p2
    ·refine tr 101 (.int .i64 ((p1:Nat):Int)) (run_min2 (x:=((p1:Nat):Int)) (y:=((p2:Nat):Int)) (by split<;>omega)) ?_
     have lg:=A.sx.sa.lt A.sx.sa.top
     refine tc 102 19 #[pg g0,.int .i64 ((p1:Nat):Int)] (top_n (m:=p1) A.sx (by omega) po (by omega) (by omega)) ?_
     rintro _ v17 ⟨t1,n6,rfl,U1,S,qn6a,qn6b,C⟩
     refine ⟨_,rfl,?_⟩
     have hC:=C.mono (fun b _ (e:b=g0)=>e▸A.sx.sa.top)
     replace BB:=belowO BB hC (fun b hb=>Nat.le_trans hwB (A.sx.kb b hb))
     replace A:=A.op S (fun _ h=>.inl h) hC
     clear S hC C
     obtain ⟨a1,c1,rfl⟩:=U1.shape
     obtain ⟨l1,hl1⟩:∃ l,(((pks 10 105 E).map Prod.snd).take p1).length=l:=⟨_,rfl⟩
     rw [hl1] at U1 ⊢
     have gl1:l1=min p1 n:=by rw [<- hl1,List.length_take,hLl]
     clear hl1
     refine t 103 (pg g0) ?_
     refine t 104 (.int .i64 ((p1:Nat):Int)) ?_
     refine t 105 (.int .i64 ((p2:Nat):Int)) ?_
     refine tr 106 (.int .i64 ((p2:Nat):Int)) (run_max2 (x:=((p1:Nat):Int)) (y:=((p2:Nat):Int)) (by split<;>omega)) ?_
     have lg:=A.sx.sa.lt A.sx.sa.top
     refine tc 107 19 #[pg g0,.int .i64 ((p2:Nat):Int)] (top_n (m:=p2) A.sx (by omega) po (by omega) (by omega)) ?_
     rintro _ v18 ⟨t2,n7,rfl,U2,S,qn7a,qn7b,C⟩
     refine ⟨_,rfl,?_⟩
     have hC:=C.mono (fun b _ (e:b=g0)=>e▸A.sx.sa.top)
     replace BB:=belowO BB hC (fun b hb=>Nat.le_trans hwB (A.sx.kb b hb))
     replace U1:=U1.chg C (fun b e=>by have e2:b=g0:=e; omega)
     replace A:=A.op S (fun _ h=>.inl h) hC
     clear S hC C
     obtain ⟨a2,c2,rfl⟩:=U2.shape
     obtain ⟨l2,hl2⟩:∃ l,(((pks 10 105 E).map Prod.snd).take p2).length=l:=⟨_,rfl⟩
     rw [hl2] at U2 ⊢
     have gl2:l2=min p2 n:=by rw [<- hl2,List.length_take,hLl]
     clear hl2
     refine t 13 (.slice a1 l1 c1) ?_
     refine t 14 (.slice a2 l2 c2) ?_
     refine gl_nil ?_
     refine ge_then ?_
     refine gc_fr [(0,.slice ao n c),(1,.int .i64 ((p1:Nat):Int)),(2,.int .i64 ((p2:Nat):Int)),(13,.slice a1 l1 c1),(14,.slice a2 l2 c2)] (by kernel_rfl) ?_
     refine gc_seq ?_
     refine gc_reg ?_
     refine t 108 (.slice a1 l1 c1) ?_
     refine t 109 (.int .i64 ((l1:Nat):Int)) ?_
     refine t 110 (.slice a2 l2 c2) ?_
     refine t 111 (.int .i64 ((l2:Nat):Int)) ?_
     have t19:(((l1:Nat):Int)<=((l2:Nat):Int)):=by omega
     refine tq 112 (.bool (decide (((l1:Nat):Int)<=((l2:Nat):Int)))) (.bool true) (congrArg Value.bool (decide_eq_true t19)) ?_
     refine t 113 (.bool true) ?_
     refine t 114 (.slice a1 l1 c1) ?_
     refine t 115 (.slice a2 l2 c2) ?_
     refine t 116 (.slice a1 l1 c1) ?_
     refine t 117 (.int .i64 ((l1:Nat):Int)) ?_
     refine tr 118 (.slice a2 l1 c2) (run_sl U2 (by omega)) ?_
     have U3:=U2.front (k:=l1) (by omega)
     rw [List.take_take,show ((pks 10 105 E).map Prod.snd).take (min l1 p2)=((pks 10 105 E).map Prod.snd).take p1 by rw [take_min ((pks 10 105 E).map Prod.snd) p1,hLl]; congr 1; omega] at U3
     refine tc 119 18 #[.slice a1 l1 c1,.slice a2 l1 c2] (numbers_ua U1 U3 (by rw [List.length_take,hLl]; omega)) ?_
     rintro _ v20 ⟨rfl,B⟩
     refine ⟨_,rfl,?_⟩
     replace A:=A.keep B
     replace BB:=joinB BB B
     replace U1:=U1.keep B
     replace U2:=U2.keep B
     clear B
     refine t 120 (.bool true) ?_
     refine t 121 (.bool true) ?_
     refine t 122 (.slice a1 l1 c1) ?_
     refine t 123 (.int .i64 ((l1:Nat):Int)) ?_
     refine t 124 (.int .i64 ((p1:Nat):Int)) ?_
     refine t 125 (.int .i64 ((p2:Nat):Int)) ?_
     refine t 126 (.slice ao n c) ?_
     refine t 127 (.int .i64 ((n:Nat):Int)) ?_
     refine tr 128 (.int .i64 ((l1:Nat):Int)) (run_min3 (x:=((p1:Nat):Int)) (y:=((p2:Nat):Int)) (u:=((n:Nat):Int)) (by repeat (first | omega | split))) ?_
     refine tq 129 (.bool (((l1:Nat):Int) == ((l1:Nat):Int))) (.bool true) (congrArg Value.bool (beq_self_eq_true _)) ?_
     refine t 130 (.bool true) ?_
     refine t 6 (.bool true) ?_
     refine gl_nil ?_
     refine ge_then ?_
     refine gc_fr [(6,.bool true)] (by kernel_rfl) ?_
     refine gc_ret ?_
     refine ge_ret (.bool true) (rs1 6 (by kernel_rfl) (by kernel_rfl)) ?_
     exact ⟨rfl,BB⟩
    ·refine tr 101 (.int .i64 ((p2:Nat):Int)) (run_min2 (x:=((p1:Nat):Int)) (y:=((p2:Nat):Int)) (by split<;>omega)) ?_
     have lg:=A.sx.sa.lt A.sx.sa.top
     refine tc 102 19 #[pg g0,.int .i64 ((p2:Nat):Int)] (top_n (m:=p2) A.sx (by omega) po (by omega) (by omega)) ?_
     rintro _ v21 ⟨t1,n6,rfl,U1,S,qn6a,qn6b,C⟩
     refine ⟨_,rfl,?_⟩
     have hC:=C.mono (fun b _ (e:b=g0)=>e▸A.sx.sa.top)
     replace BB:=belowO BB hC (fun b hb=>Nat.le_trans hwB (A.sx.kb b hb))
     replace A:=A.op S (fun _ h=>.inl h) hC
     clear S hC C
     obtain ⟨a1,c1,rfl⟩:=U1.shape
     obtain ⟨l1,hl1⟩:∃ l,(((pks 10 105 E).map Prod.snd).take p2).length=l:=⟨_,rfl⟩
     rw [hl1] at U1 ⊢
     have gl1:l1=min p2 n:=by rw [<- hl1,List.length_take,hLl]
     clear hl1
     refine t 103 (pg g0) ?_
     refine t 104 (.int .i64 ((p1:Nat):Int)) ?_
     refine t 105 (.int .i64 ((p2:Nat):Int)) ?_
     refine tr 106 (.int .i64 ((p1:Nat):Int)) (run_max2 (x:=((p1:Nat):Int)) (y:=((p2:Nat):Int)) (by split<;>omega)) ?_
     have lg:=A.sx.sa.lt A.sx.sa.top
     refine tc 107 19 #[pg g0,.int .i64 ((p1:Nat):Int)] (top_n (m:=p1) A.sx (by omega) po (by omega) (by omega)) ?_
     rintro _ v22 ⟨t2,n7,rfl,U2,S,qn7a,qn7b,C⟩
     refine ⟨_,rfl,?_⟩
     have hC:=C.mono (fun b _ (e:b=g0)=>e▸A.sx.sa.top)
     replace BB:=belowO BB hC (fun b hb=>Nat.le_trans hwB (A.sx.kb b hb))
     replace U1:=U1.chg C (fun b e=>by have e2:b=g0:=e; omega)
     replace A:=A.op S (fun _ h=>.inl h) hC
     clear S hC C
     obtain ⟨a2,c2,rfl⟩:=U2.shape
     obtain ⟨l2,hl2⟩:∃ l,(((pks 10 105 E).map Prod.snd).take p1).length=l:=⟨_,rfl⟩
     rw [hl2] at U2 ⊢
     have gl2:l2=min p1 n:=by rw [<- hl2,List.length_take,hLl]
     clear hl2
     refine t 13 (.slice a1 l1 c1) ?_
     refine t 14 (.slice a2 l2 c2) ?_
     refine gl_nil ?_
     refine ge_then ?_
     refine gc_fr [(0,.slice ao n c),(1,.int .i64 ((p1:Nat):Int)),(2,.int .i64 ((p2:Nat):Int)),(13,.slice a1 l1 c1),(14,.slice a2 l2 c2)] (by kernel_rfl) ?_
     refine gc_seq ?_
     refine gc_reg ?_
     refine t 108 (.slice a1 l1 c1) ?_
     refine t 109 (.int .i64 ((l1:Nat):Int)) ?_
     refine t 110 (.slice a2 l2 c2) ?_
     refine t 111 (.int .i64 ((l2:Nat):Int)) ?_
     have t23:(((l1:Nat):Int)<=((l2:Nat):Int)):=by omega
     refine tq 112 (.bool (decide (((l1:Nat):Int)<=((l2:Nat):Int)))) (.bool true) (congrArg Value.bool (decide_eq_true t23)) ?_
     refine t 113 (.bool true) ?_
     refine t 114 (.slice a1 l1 c1) ?_
     refine t 115 (.slice a2 l2 c2) ?_
     refine t 116 (.slice a1 l1 c1) ?_
     refine t 117 (.int .i64 ((l1:Nat):Int)) ?_
     refine tr 118 (.slice a2 l1 c2) (run_sl U2 (by omega)) ?_
     have U3:=U2.front (k:=l1) (by omega)
     rw [List.take_take,show ((pks 10 105 E).map Prod.snd).take (min l1 p1)=((pks 10 105 E).map Prod.snd).take p2 by rw [take_min ((pks 10 105 E).map Prod.snd) p2,hLl]; congr 1; omega] at U3
     refine tc 119 18 #[.slice a1 l1 c1,.slice a2 l1 c2] (numbers_ua U1 U3 (by rw [List.length_take,hLl]; omega)) ?_
     rintro _ v24 ⟨rfl,B⟩
     refine ⟨_,rfl,?_⟩
     replace A:=A.keep B
     replace BB:=joinB BB B
     replace U1:=U1.keep B
     replace U2:=U2.keep B
     clear B
     refine t 120 (.bool true) ?_
     refine t 121 (.bool true) ?_
     refine t 122 (.slice a1 l1 c1) ?_
     refine t 123 (.int .i64 ((l1:Nat):Int)) ?_
     refine t 124 (.int .i64 ((p1:Nat):Int)) ?_
     refine t 125 (.int .i64 ((p2:Nat):Int)) ?_
     refine t 126 (.slice ao n c) ?_
     refine t 127 (.int .i64 ((n:Nat):Int)) ?_
     refine tr 128 (.int .i64 ((l1:Nat):Int)) (run_min3 (x:=((p1:Nat):Int)) (y:=((p2:Nat):Int)) (u:=((n:Nat):Int)) (by repeat (first | omega | split))) ?_
     refine tq 129 (.bool (((l1:Nat):Int) == ((l1:Nat):Int))) (.bool true) (congrArg Value.bool (beq_self_eq_true _)) ?_
     refine t 130 (.bool true) ?_
     refine t 6 (.bool true) ?_
     refine gl_nil ?_
     refine ge_then ?_
     refine gc_fr [(6,.bool true)] (by kernel_rfl) ?_
     refine gc_ret ?_
     refine ge_ret (.bool true) (rs1 6 (by kernel_rfl) (by kernel_rfl)) ?_
     exact ⟨rfl,BB⟩
end Pw
end Go.Proofs.YtflenlpabmehoaaGreat
