import Derived.Test.YtpoifdokmjhclaaGreatJyJ
import Derived.Test.YtpoifdokmjhclaaGreatJyK
set_option maxRecDepth 100000
set_option maxHeartbeats 8000000
namespace Go.Proofs.YtpoifdokmjhclaaGreat
namespace Fo
open Mg (mK)
open Go.RowKit Go.Lib Pg Lim Gl Kv Bk Pw Sd Di
attribute [local go_sem] Oper.semAt_some
set_option linter.unusedVariables false
set_option linter.unusedSimpArgs false
section
variable {w:World}{g g1:Nat}{ρ:Operand->Value}{M:List Int}{x:Int}
theorem info_P:(Tryz.prog.info? 43).map (λi=>(i.zero,i.size,i.bytes))=some (some (.agg #[.int .u64 0,.int .u64 0]),2,16):=by kernel_rfl
theorem DS:Tryz.prog.underlying 25=some (.slice 43):=by kernel_rfl
theorem app_P(h:Blk w g [.int .u64 16,.int .u64 100] 43)(X:Blk w g1 [.int .u64 16,.int .u64 100] 43) :
    ∃ b c sp w',(Builtin.append_ #[25,25] 25 #[.slice (some ⟨g,0,none⟩) 1 1,sg 1 g1]).run Tryz.prog w=.ok (.slice (some ⟨b,0,none⟩) 2 c) w'∧Blk w' b ([.int .u64 16,.int .u64 100,.int .u64 16,.int .u64 100] ++ sp) 43∧w.heap.size≤b∧BW w w':=by
  obtain⟨i0,hi,d,a,f⟩:= info_parts info_P;have k:=run_append_grow (P:=Tryz.prog) w 25 25 43 i0 (.agg #[.int .u64 0,.int .u64 0]) DS hi d ⟨g,0,none⟩ 1 1 [.int .u64 16,.int .u64 100] (by rw[a];rfl)
    (λj u i => by
      rw[bZ,Nat.zero_add]
      exact h.cell i) ⟨g1,0,none⟩ 1 1 [.int .u64 16,.int .u64 100] (by rw[a];rfl)
    (λj u i => by
      rw[bZ,Nat.zero_add]
      exact X.cell i) (by omega) (by omega) (growslice_fits (by omega) (by rw[f];omega))
  refine⟨_,_,(Builtin.zeroCells (Value.agg #[.int .u64 0,.int .u64 0]).cells (grownCap w (1+1) 1 43 - (1+1))).toList,_,k,?_,Nat.le_refl _,?_⟩
  · have e : ([.int .u64 16, .int .u64 100].toArray ++ [.int .u64 16, .int .u64 100].toArray ++ Builtin.zeroCells (Value.agg #[.int .u64 0, .int .u64 0]).cells (grownCap w (1 + 1) 1 43 - (1 + 1))) = (([.int .u64 16, .int .u64 100, .int .u64 16, .int .u64 100] : List Value) ++ (Builtin.zeroCells (Value.agg #[.int .u64 0, .int .u64 0]).cells (grownCap w (1 + 1) 1 43 - (1 + 1))).toList).toArray := by simp
    rw[e];exact ay w.drew _ _
  · have b:=aa w.drew (.cells ([.int .u64 16,.int .u64 100].toArray ++ [.int .u64 16,.int .u64 100].toArray ++ Builtin.zeroCells (Value.agg #[.int .u64 0,.int .u64 0]).cells (grownCap w (1+1) 1 43 - (1+1))) 43)
    exact⟨b.os,b.tape,b.output,b.size,b.block⟩
theorem Gx{w':World}{o:Oper}{q v r:Value}(hr:(Builtin.append_ #[25,25] 25 #[q,v]).run Tryz.prog w=.ok r w')(ho:∃ x y,o.op=.call { callee:=.builtin .append,args:=#[x,y],argTypes:=#[25,25] }/\o.type=25/\ρ x=q/\ρ y=v:=by exact⟨_,_,rfl,rfl,by kernel_rfl,by kernel_rfl⟩):(execOp ρ o).run Tryz.prog w=.ok (.value r) w':=by
 obtain⟨x,y,h,b,c,a⟩:=ho;unfold execOp;simp only[h,b,resolve,invoke,builtin,Sem.run_bind,Sem.run_pure,Result.andThen_ok,List.map_toArray,List.map_cons,List.map_nil,c,a,hr]
theorem Ae(h:Blk w g (M.map (Value.int .u8)) 5)(X:Blk w g1 [.int .u8 x] 5)(ho:aJ M)(hx:0≤x∧x < 256)(q:M.length≤100000) :
    ∃ b c w',(Builtin.append_ #[29,29] 29 #[.slice (some ⟨g,0,none⟩) M.length M.length,sg 1 g1]).run Tryz.prog w=.ok (.slice (some ⟨b,0,none⟩) (M.length+1) c) w'∧ByA w' b (some ⟨b,0,none⟩) (M.length+1) c (M ++ [x])∧BW w w':=by
  obtain⟨i0,hi,n,d,l⟩:= info_parts gT;have o:=mK h (Nat.le_refl g) rfl (show M.length≤1000000 by omega);have holds:=World.ownsRow.cells o (g:=g) rfl;have p:=run_append_grow (P:=Tryz.prog) w 29 29 5 i0 (.int .u8 0) cJ hi n ⟨g,0,none⟩ M.length M.length (M.map (Value.int .u8)) (by rw[List.length_map,d,Nat.mul_one]) holds ⟨g1,0,none⟩ 1 1 [.int .u8 x] (by rw[d];rfl)
    (λj u a => by
      match j,a with
      | 0,a=>cases a;exact X.cell (i:=0) rfl
      | j+1,a=>simp at a) (by omega) (by omega) (growslice_fits (by omega) (by rw[l];omega))
  have m:=grownCap_ge w (M.length+1) M.length 5
  have k:grownCap w (M.length+1) M.length 5≤maxLen:=grownCap_le_maxLen w _ _ _ (by unfold maxLen;omega);refine⟨_,_,_,p,⟨0,by simp,m,⟨by unfold maxLen at k;omega,λe=>by cases e⟩,λy hy=>?_,.inr rfl,λi hi=>?_⟩,?_⟩
  · rcases List.mem_append.1 hy with f | f
    · exact ho y f
    · rw[List.mem_singleton] at f;subst f;exact hx
  · have hb:=heap_alloc_new w.drew (.cells ((M.map (Value.int .u8)).toArray ++ [Value.int .u8 x].toArray ++ Builtin.zeroCells (Value.int .u8 0).cells (grownCap w (M.length+1) M.length 5 - (M.length+1))) 5)
    rw[Nat.zero_add]
    show World.cell? _ ⟨w.drew.heap.size,i,none⟩=_
    simp only[World.cell?,hb]
    have e1:((M.map (Value.int .u8)).toArray ++ [Value.int .u8 x].toArray)=((M ++ [x]).map (Value.int .u8)).toArray:=by simp
    rw[e1,Array.getElem?_append_left (by simpa using hi),List.getElem?_toArray,List.getElem?_map,List.getElem?_eq_getElem hi,cF hi];rfl
  · have b:=aa w.drew (.cells ((M.map (Value.int .u8)).toArray ++ [Value.int .u8 x].toArray ++ Builtin.zeroCells (Value.int .u8 0).cells (grownCap w (M.length+1) M.length 5 - (M.length+1))) 5)
    exact⟨b.os,b.tape,b.output,b.size,b.block⟩
theorem app_fm{m:Nat}(h:Blk w g (M.map (Value.int .u8)) 5)(X:Blk w g1 [.int .u8 x] 5)(ho:aJ M)(hm:M.length=m)(hx:0≤x∧x < 256:=by exact⟨by decide,by decide⟩)(a:m≤100000:=by decide) :
    ∃ b c w',(Builtin.append_ #[29,29] 29 #[.slice (some ⟨g,0,none⟩) m m,sg 1 g1]).run Tryz.prog w=.ok (.slice (some ⟨b,0,none⟩) (m+1) c) w'∧ByA w' b (some ⟨b,0,none⟩) (m+1) c (M ++ [x])∧BW w w':=by
  subst hm;exact Ae h X ho hx a
def uK:List Int:=Gn.bG ⟨[1,1,1,0,0,0,0,0,0,16],[16,100],[16,500,10]⟩ 1 1
theorem Ed:uK.length=132:=by decide +kernel
theorem go_y:aJ uK:=Gn.jo _ _ _
theorem ge_y:Gn.eD uK=0:=by decide +kernel
theorem gd_y:Gn.gD uK=⟨[1,1,1,0,0,0,0,0,0,16],[16,100],[16,500,10]⟩:=by kernel_rfl
def zf:List Int:=Gn.bG ⟨[1,1,1,0,0,0,0,0,0,16],[16,100],[17,500,10]⟩ 1 1
theorem gl_n:zf.length=132:=by decide +kernel
theorem go_n:aJ zf:=Gn.jo _ _ _
theorem ge_n:Gn.eD zf=0:=by decide +kernel
theorem gd_n:Gn.gD zf=⟨[1,1,1,0,0,0,0,0,0,16],[16,100],[17,500,10]⟩:=by kernel_rfl
def BM:List Int:=Gn.bG ⟨[1,1,1,0,0,0,0,0,0,16],[16,100,16,100],[17,500,10]⟩ 2 1
theorem gl_a:BM.length=148:=by decide +kernel
theorem go_a:aJ BM:=Gn.jo _ _ _
theorem ge_a:Gn.eD BM=0:=by decide +kernel
theorem gd_a:Gn.gD BM=⟨[1,1,1,0,0,0,0,0,0,16],[16,100,16,100],[17,500,10]⟩:=by kernel_rfl
def zI:List Int:=Gn.bG ⟨[0,1,1,0,0,0,0,0,0,16],[16,100,16,100],[17,500,10]⟩ 2 1
theorem gl_p:zI.length=148:=by decide +kernel
theorem go_p:aJ zI:=Gn.jo _ _ _
theorem ge_p:Gn.eD zI=0:=by decide +kernel
theorem gd_p:Gn.gD zI=⟨[0,1,1,0,0,0,0,0,0,16],[16,100,16,100],[17,500,10]⟩:=by kernel_rfl
theorem ge_d:Gn.eD (uK ++ [0])=210:=by decide +kernel
end
end Fo
end Go.Proofs.YtpoifdokmjhclaaGreat
