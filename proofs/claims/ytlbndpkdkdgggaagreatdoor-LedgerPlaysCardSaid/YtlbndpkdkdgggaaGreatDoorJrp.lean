/- Several texts, joined: LgS, LgT, LgMp, PgR, LgRz, LgMq. -/
import Derived.Test.YtlbndpkdkdgggaaGreatDoorJrj
import Derived.Laws.IdiomRangeMap
import Derived.MapKept
import Derived.Test.YtlbndpkdkdgggaaGreatDoorJrg
set_option maxRecDepth 100000
set_option maxHeartbeats 8000000
namespace Go.Proofs.YtlbndpkdkdgggaaGreatDoor
section
namespace Lg
open Go.RowKit Go.Lib Lim Pg Gl
abbrev Stk:=Rat × Rat × Int × Int
abbrev St:=List ((Int × Int) × Stk)
def sGet (S:St) (v d:Int):Option Stk:=(S.find? fun e=>e.1.1 == v && e.1.2 == d).map (·.2)
def sWorth (S:St) (v d:Int):Rat:=match sGet S v d with | some s=>s.1 | none=>0
def sOwed (S:St) (v d:Int):Rat:=match sGet S v d with | some s=>s.2.1 | none=>0
def sStakes:St->Int->Rat
 | [],_=>0
 | e :: S,v=>if e.1.1=v then e.2.1 + sStakes S v else sStakes S v
def sOwes:St->Int->Rat
 | [],_=>0
 | e :: S,v=>if e.1.1=v then e.2.2.1 + sOwes S v else sOwes S v
def sOn (S:St) (v:Int) (f:Stk->Stk):St:=S.map fun e=>if e.1.1=v then (e.1,f e.2) else e
def qv (n d:Int):Rat:=if d=0 then 0 else (n:Rat) / (d:Rat)
def sGive (S:St) (v r t:Int):St:=sOn S v fun s=>(s.1,s.2.1 + (r:Rat) / ((U36:Int):Rat) * s.1 * qv 1 t,s.2.2)
def sCut (S:St) (v b a:Int):St:=sOn S v fun s=>(s.1 * qv a b,s.2.1,s.2.2.1 + 1,s.2.2.2 + 1)
def sTick (S:St) (v:Int):St:=sOn S v fun s=>(s.1,s.2.1,s.2.2.1 + 1,s.2.2.2)
def sAt (S:St) (v d:Int) (f:Stk->Stk):St:=S.map fun e=>if e.1.1=v/\e.1.2=d then (e.1,f e.2) else e
def sClear (S:St) (v d:Int):St:=sAt S v d fun s=>(s.1,0,0,0)
def sTold (S:St) (v d:Int):Rat × Int × Int:=match sGet S v d with | some s=>(s.2.1,s.2.2.1,s.2.2.2) | none=>(0,0,0)
def sHold (S:St) (v d x s t:Int):St:=if (sGet S v d).isSome then sAt S v d fun e=>(qv (x * t) s,e.2) else S ++ [((v,d),(qv (x * t) s,0,0,0))]
def sDrop (S:St) (v d:Int):St:=S.filter fun e => !(e.1.1 == v && e.1.2 == d)
abbrev Fs (S:St) (L:Nat):Prop:=∀ e∈S,Ft e.2.1 L/\Ft e.2.2.1 L/\0<=e.2.2.2.1/\e.2.2.2.1 < 1000000/\0<=e.2.2.2.2/\e.2.2.2.2 < 1000000
def Lp (w w':World):Prop:=∀ b o x,w.cell? ⟨b,o,none⟩=some (.int .u64 x)->x≠0->∀ o',o'<=o->∀ y,w.cell? ⟨b,o',none⟩=some (.int .u64 y)->w'.cell? ⟨b,o',none⟩=some (.int .u64 y)
theorem Lp.refl (w:World):Lp w w:=fun _ _ _ _ _ _ _ _ h=>h
theorem Lp.of {w w':World} (h:Below w.heap.size w w'):Lp w w':=fun b o x _ _ o' _ y k=>by
 rw [World.cell?_of_block (w:=w) (h.block b (cell_lt k))]; exact k
theorem Lp.trans {w w' w'':World} (h:Lp w w') (k:Lp w' w''):Lp w w'':=fun b o x hx h0 o' ho y hy=>k b o x (h b o x hx h0 o (Nat.le_refl _) x hx) h0 o' ho y (h b o x hx h0 o' ho y hy)
theorem Lp.cg {w w':World} {g:Nat} {cs:List Value} {t:TypeId} (X:Blk w g cs t) (C:Chg (· = g) w w') (hn:cs.all nu=true):Lp w w':=fun _ _ _ _ _ _ _ _ k=>cell_cg X hn C k
theorem NatO.lp {w w':World} {a:Option Addr} {n c:Nat} {x:Int} (h:NatO w a n c x) (P:Lp w w'):NatO w' a n c x:=by
 obtain ⟨b,o,l,h1,h2,h3,h4⟩:=h.ex
 refine ⟨b,o,l,h1,h2,h3,⟨h4.loc,fun i hi => ?_⟩⟩
 have ht:nth l (l.length - 1)≠0:=by
  rw [<- h3.2.1]
  exact nlen_last (by rw [h3.2.1]; omega)
 exact P b (o + (l.length - 1)) _ (h4.cell (l.length - 1) (by omega)) ht (o + i) (by omega) _ (h4.cell i hi)
theorem RQ.lp {w w':World} {a b:Option Addr} {n c m d:Nat} {r:Rat} (h:RQ w a n c b m d r) (P:Lp w w'):RQ w' a n c b m d r:=by
 obtain ⟨p,q,B,h1,h2⟩:=h.ex
 obtain ⟨x,y,g1,g2,g3⟩:=h1.ex
 exact ⟨p,q,B,⟨⟨x,y,NatO.lp g1 P,NatO.lp g2 P,g3⟩,h1.q0,h1.p0,h1.hn,h1.hm⟩,h2⟩
theorem pSameL {w:World} {B:Nat} {a0 b0:Option Addr} {n0 c0 m0 d0:Nat} {a1 b1:Option Addr} {n1 c1 m1 d1:Nat} {r0 r1:Rat} (h0:RQ w a0 n0 c0 b0 m0 d0 r0) (h1:RQ w a1 n1 c1 b1 m1 d1 r1) (f0:Ft r0 (64 * B)) (f1:Ft r1 (64 * B)) (hb:B<=10000000) {t:Bool} (ht:decide (r0=r1)=t) :
  Calls Tryz.prog 16 #[.agg #[.slice a0 n0 c0,.slice b0 m0 d0],.agg #[.slice a1 n1 c1,.slice b1 m1 d1]] w fun e w'=>e=.returned (.bool t)/\Below w.heap.size w w':=by
 have:=pSame h0 h1 f0 f1 hb
 rw [ht] at this
 exact this
def Un (S:St):Prop:=S.Pairwise fun a b=>a.1≠b.1
theorem un_map {S:St} {f:(Int × Int) × Stk->(Int × Int) × Stk} (h:Un S) (k:∀ e,(f e).1=e.1):Un (S.map f) :=
 List.pairwise_map.2 (List.Pairwise.imp (fun {a b} q=>by rw [k,k]; exact q) h)
theorem un_on {S:St} {v:Int} {f:Stk->Stk} (h:Un S):Un (sOn S v f):=un_map h fun e=>by split<;>rfl
theorem un_at {S:St} {v d:Int} {f:Stk->Stk} (h:Un S):Un (sAt S v d f):=un_map h fun e=>by split<;>rfl
theorem un_drop {S:St} {v d:Int} (h:Un S):Un (sDrop S v d):=List.Pairwise.filter _ h
theorem un_hold {S:St} {v d x y t:Int} (h:Un S):Un (sHold S v d x y t):=by
 unfold sHold
 split
 ·exact un_at h
 ·rename_i k
  refine List.pairwise_append.2 ⟨h,List.pairwise_singleton _ _,fun a ha b hb => ?_⟩
  rw [List.mem_singleton] at hb
  subst hb
  intro e
  apply k
  unfold sGet
  rw [Option.isSome_map,List.find?_isSome]
  exact ⟨a,ha,by simp [e]⟩
abbrev RV:=Option Addr × Nat × Nat × Option Addr × Nat × Nat
abbrev sA (v:RV):Value:=.slice v.1 v.2.1 v.2.2.1
abbrev sB (v:RV):Value:=.slice v.2.2.2.1 v.2.2.2.2.1 v.2.2.2.2.2
abbrev RQv (w:World) (v:RV) (r:Rat):Prop:=RQ w v.1 v.2.1 v.2.2.1 v.2.2.2.1 v.2.2.2.2.1 v.2.2.2.2.2 r
abbrev nz:Value->Bool
 | .int .u64 x=>x == 0
 | _=>true
theorem Lp.z0 {w w':World} {g:Nat} {cs:List Value} {t:TypeId} (X:Blk w g cs t) (C:Chg (· = g) w w') (hn:cs.all nz=true):Lp w w':=by
 intro b o x hx h0 o' ho y hy
 by_cases e:b=g
 ·subst e
  have hq:=X.blk
  simp only [World.cell?,hq] at hx
  have hx:cs[o]? = some (.int .u64 x):=by simpa using hx
  have:=List.all_eq_true.1 hn _ (List.mem_of_getElem? hx)
  exact absurd (by simpa [nz] using this) h0
 ·rw [World.cell?_of_block (w:=w) (C.same b (cell_lt hy) e)]; exact hy
end Lg
end
section
namespace Lg
theorem stakes_app (S T:St) (v:Int):sStakes (S ++ T) v=sStakes S v + sStakes T v:=by
 induction S with
 | nil=>simp only [List.nil_append,sStakes]; grind
 | cons e S ih=>simp only [List.cons_append,sStakes,ih]; split<;>grind
theorem owes_app (S T:St) (v:Int):sOwes (S ++ T) v=sOwes S v + sOwes T v:=by
 induction S with
 | nil=>simp only [List.nil_append,sOwes]; grind
 | cons e S ih=>simp only [List.cons_append,sOwes,ih]; split<;>grind
theorem qv_nn {n d:Int} (hn:0<=n) (hd:0<=d):0<=qv n d:=by
 unfold qv; split
 ·exact Rat.le_refl
 ·exact fr_nn hn (by omega)
theorem qv_ft {n d:Int} {L:Nat} (hL:0 < L) (hn:0<=n/\n < 2 ^ L) (hd:0<=d/\d < 2 ^ L):Ft (qv n d) L:=by
 unfold qv; split
 ·exact ft_up (show Ft 0 1 by decide +kernel) hL
 ·exact ft_of (by omega) hn.1 rfl hn.2 hd.2
end Lg
end
section
namespace Lg
open Go.RowKit Go.Lib Lim Pg Gl
attribute [local go_sem] Oper.semAt_some
abbrev kv2 (v d:Int):Value:=.agg #[.int .u64 v,.int .u64 d]
structure Mn where
 v:Int
 d:Int
 g:Nat
 b:Nat
abbrev Mn.e (m:Mn):MapEntry:={ key:=kv2 m.v m.d,val:=pg m.g,born:=m.b }
abbrev mes (L:List Mn):Array MapEntry:=(L.map Mn.e).toArray
def fm (v d:Int):List Mn->Nat->Option (Nat × Nat)
 | [],_=>none
 | m :: L,i=>if m.v=v/\m.d=d then some (i,m.g) else fm v d L (i + 1)
theorem map_era {α β : Type} {f : α → β} (L : List α) (i : Nat) : (L.map f).eraseIdx i = (L.eraseIdx i).map f := by
  induction L generalizing i with
  | nil => rfl
  | cons a L ih => cases i with
    | zero => rfl
    | succ i => simp [ih]
theorem fm_no {v d:Int} {L:List Mn} {i:Nat} (h:∀ m∈L,¬ (m.v=v/\m.d=d)):fm v d L i=none:=by
 induction L generalizing i with
 | nil=>rfl
 | cons a L ih=>unfold fm; rw [if_neg (h a List.mem_cons_self)]; exact ih fun m hm=>h m (List.mem_cons_of_mem _ hm)
theorem fm_yes {v d:Int} {L:List Mn} {i k:Nat} {m:Mn} (hk:L[k]? = some m) (hm:m.v=v/\m.d=d) (h:∀ j m',j < k->L[j]? = some m'->¬ (m'.v=v/\m'.d=d)):fm v d L i=some (i + k,m.g):=by
 induction L generalizing i k with
 | nil=>simp at hk
 | cons a L ih =>
  unfold fm
  cases k with
  | zero =>
   obtain rfl:a=m:=by simpa using hk
   rw [if_pos hm]; rfl
  | succ k =>
   rw [if_neg (h 0 a (by omega) rfl),ih (by simpa using hk) fun j m' hj h1=>h (j + 1) m' (by omega) (by simpa using h1)]
   congr 2; omega
theorem und_lm:Tryz.prog.underlying 72=some (.map 85 77):=by kernel_rfl
def isS:Option TypeDesc->Bool
 | some (.struct _)=>true
 | _=>false
theorem und_lk:∃ k,Tryz.prog.underlying 85=some (.struct k):=by
 have h:isS (Tryz.prog.underlying 85)=true:=by kernel_rfl
 unfold isS at h
 split at h
 ·rename_i k e; exact ⟨k,e⟩
 ·cases h
theorem ck2 {w:World} {em:Bool} {v d:Int}:(Instr.checkKey em 10000 85 (kv2 v d)).run Tryz.prog w=.ok () w:=by kernel_rfl
theorem eq2k {w:World} {v d v' d':Int}:(Op.equal 85 (kv2 v d) (kv2 v' d')).run Tryz.prog w=.ok (decide (v'=v/\d'=d)) w:=by
 unfold Op.equal
 rw [show Op.maxDepth=9999 + 1 from rfl]
 unfold Op.equalIn
 go_simp
 by_cases h1:v=v'<;>by_cases h2:d=d'<;>simp [h1,h2,eq_comm]
theorem fask {w:World} {v d:Int} (L:List Mn) (i:Nat):(Instr.findAsking 85 (kv2 v d) (L.map Mn.e) i).run Tryz.prog w=.ok ((fm v d L i).map fun p=>(p.1,pg p.2)) w:=by
 induction L generalizing i with
 | nil=>simp [Instr.findAsking,fm]
 | cons m L ih =>
  simp only [List.map_cons,Instr.findAsking,Sem.run_bind,eq2k,Result.andThen_ok]
  by_cases h:m.v=v/\m.d=d
  ·simp [h,fm]
  ·simp [h,fm,ih]
theorem fkey {w:World} {v d:Int} (L:List Mn):(Instr.findKey 85 (kv2 v d) (L.map Mn.e)).run Tryz.prog w=.ok ((fm v d L 0).map fun p=>(p.1,pg p.2)) w:=by
 cases L with
 | nil =>
  simp only [Instr.findKey,List.map_nil,Instr.findNow,Sem.run_bind]
  kernel_rfl
 | cons m L =>
  obtain ⟨k,h1⟩:=und_lk
  have h2:Instr.findNow (.struct k) (kv2 v d) ((m :: L).map Mn.e) 0=none:=rfl
  simp only [Instr.findKey,Sem.run_bind,run_underlying h1,Result.andThen_ok,h2]
  exact fask (m :: L) 0
section
variable {w:World} {bm clock:Nat} {L:List Mn} {v d:Int}
theorem run_lkp0 (hb:w.heap[bm]? = some (.map (mes L) clock)):(Instr.lookup 72 (.map (some bm)) (kv2 v d) false).run Tryz.prog w=.ok (match fm v d L 0 with | some p=>pg p.2 | none=>.pointer none) w:=by
 simp only [Instr.lookup,Sem.run_bind,run_underlying und_lm,Result.andThen_ok,MapKept.run_getObj_map hb,Sem.run_pure,ck2,fkey]
 cases h:fm v d L 0 with
 | none=>simp
 | some p=>simp
def wset (w:World) (r:Nat) (o:Obj):World:={ w with heap:=w.heap.setIfInBounds r o }
theorem wset_at {r:Nat} {o o':Obj} (h:w.heap[r]? = some o'):(wset w r o).heap[r]? = some o:=by
 have:=lt_of_block h
 simp [wset,this]
theorem wset_chg (r:Nat) (o:Obj):Chg (· = r) w (wset w r o):=⟨rfl,rfl,rfl,by simp [wset],fun b _ hb=>by
 have hb':¬ (b=r):=hb
 simp only [wset]
 rw [Array.getElem?_setIfInBounds_ne (fun e=>hb' e.symm)]⟩
theorem run_mup0 (g:Nat) (hb:w.heap[bm]? = some (.map (mes L) clock)) (hf:fm v d L 0=none):(Instr.mapUpdate 72 (.map (some bm)) (kv2 v d) (pg g)).run Tryz.prog w=.ok () (wset w bm (.map (mes (L ++ [⟨v,d,g,clock⟩])) (clock + 1))):=by
 simp only [Instr.mapUpdate,Sem.run_bind,run_underlying und_lm,Result.andThen_ok,MapKept.run_getObj_map hb,ck2,fkey,hf,Option.map_none,MapKept.run_setObj_map _ hb]
 simp [wset,mes]
theorem run_del0 (hb:w.heap[bm]? = some (.map (mes L) clock)):(Builtin.delete_ #[72,85] 0 #[.map (some bm),kv2 v d]).run Tryz.prog w=.ok (.tuple #[]) (wset w bm (.map (mes (match fm v d L 0 with | some p=>L.eraseIdx p.1 | none=>L)) clock)):=by
 unfold Builtin.delete_
 rw [show (#[72,85]:Array TypeId)[0]? = some 72 from rfl,show (#[Value.map (some bm),kv2 v d]:Array Value)[0]? = some (Value.map (some bm)) from rfl,show (#[Value.map (some bm),kv2 v d]:Array Value)[1]? = some (kv2 v d) from rfl]
 simp only [Sem.run_bind,run_underlying und_lm,Result.andThen_ok,MapKept.run_getObj_map hb,ck2,fkey]
 cases h:fm v d L 0 with
 | none=>simp [MapKept.run_setObj_map _ hb,wset]
 | some p=>simp [MapKept.run_setObj_map _ hb,wset,mes,map_era]
end
section
variable {ρ:Operand->Value} {o:Oper} {w:World} {bm clock:Nat} {L:List Mn} {v d:Int}
theorem run_lkY (g:Nat) {i:Nat} (hb:w.heap[bm]? = some (.map (mes L) clock)) (hf:fm v d L 0=some (i,g)) (ho:∃ x y,o.op=.lookup 72 x y false/\ρ x=.map (some bm)/\ρ y=kv2 v d:=by exact ⟨_,_,rfl,by kernel_rfl,by kernel_rfl⟩):(execOp ρ o).run Tryz.prog w=.ok (.value (pg g)) w:=by
 obtain ⟨x,y,h,h1,h2⟩:=ho
 have:=run_lkp0 (v:=v) (d:=d) hb
 rw [hf] at this
 simp only [execOp,h,h1,h2,Sem.run_bind,this,Result.andThen_ok,Sem.run_pure]
theorem run_lkN (hb:w.heap[bm]? = some (.map (mes L) clock)) (hf:fm v d L 0=none) (ho:∃ x y,o.op=.lookup 72 x y false/\ρ x=.map (some bm)/\ρ y=kv2 v d:=by exact ⟨_,_,rfl,by kernel_rfl,by kernel_rfl⟩):(execOp ρ o).run Tryz.prog w=.ok (.value (.pointer none)) w:=by
 obtain ⟨x,y,h,h1,h2⟩:=ho
 have:=run_lkp0 (v:=v) (d:=d) hb
 rw [hf] at this
 simp only [execOp,h,h1,h2,Sem.run_bind,this,Result.andThen_ok,Sem.run_pure]
theorem run_lk0 (ho:∃ x y,o.op=.lookup 72 x y false/\ρ x=.map none/\ρ y=kv2 v d:=by exact ⟨_,_,rfl,by kernel_rfl,by kernel_rfl⟩):(execOp ρ o).run Tryz.prog w=.ok (.value (.pointer none)) w:=by
 obtain ⟨x,y,h,h1,h2⟩:=ho
 simp only [execOp,h,h1,h2,Sem.run_bind]
 kernel_rfl
theorem run_delN (ho:∃ x y,o.op=.call { callee:=.builtin .delete,args:=#[x,y],argTypes:=#[72,85] }/\o.type=0/\ρ x=.map none/\ρ y=kv2 v d:=by exact ⟨_,_,rfl,rfl,by kernel_rfl,by kernel_rfl⟩):(execOp ρ o).run Tryz.prog w=.ok (.value (.tuple #[])) w:=by
 obtain ⟨x,y,h,ht,h1,h2⟩:=ho
 unfold execOp
 simp only [h,ht,resolve,invoke,builtin,Sem.run_bind,Sem.run_pure,Result.andThen_ok,List.map_toArray,List.map_cons,List.map_nil,h1,h2]
 kernel_rfl
theorem run_mup (g:Nat) (hb:w.heap[bm]? = some (.map (mes L) clock)) (hf:fm v d L 0=none) (ho:∃ x y z,o.op=.mapUpdate 72 x y z/\ρ x=.map (some bm)/\ρ y=kv2 v d/\ρ z=pg g:=by exact ⟨_,_,_,rfl,by kernel_rfl,by kernel_rfl,by kernel_rfl⟩):(execOp ρ o).run Tryz.prog w=.ok .skip (wset w bm (.map (mes (L ++ [⟨v,d,g,clock⟩])) (clock + 1))):=by
 obtain ⟨x,y,z,h,h1,h2,h3⟩:=ho
 simp only [execOp,h,h1,h2,h3,Sem.run_bind,run_mup0 g hb hf,Result.andThen_ok,Sem.run_pure]
theorem run_del (hb:w.heap[bm]? = some (.map (mes L) clock)) (ho:∃ x y,o.op=.call { callee:=.builtin .delete,args:=#[x,y],argTypes:=#[72,85] }/\o.type=0/\ρ x=.map (some bm)/\ρ y=kv2 v d:=by exact ⟨_,_,rfl,rfl,by kernel_rfl,by kernel_rfl⟩):(execOp ρ o).run Tryz.prog w=.ok (.value (.tuple #[])) (wset w bm (.map (mes (match fm v d L 0 with | some p=>L.eraseIdx p.1 | none=>L)) clock)):=by
 obtain ⟨x,y,h,ht,h1,h2⟩:=ho
 unfold execOp
 simp only [h,ht,resolve,invoke,builtin,Sem.run_bind,Sem.run_pure,Result.andThen_ok,List.map_toArray,List.map_cons,List.map_nil,h1,h2,run_del0 hb]
end
section
variable {w:World} {bm clock:Nat} {es:Array MapEntry}
theorem run_setI {r b d:Nat} {a:Option Nat} {c:Array Nat} {o:Obj} (h:w.heap[r]? = some (.mapIter a b c d)):(setObj r o).run Tryz.prog w=.ok () (wset w r o):=by
 simp only [setObj,Sem.run]
 rw [h]
 rfl
theorem run_getI {r b d:Nat} {a:Option Nat} {c:Array Nat} (h:w.heap[r]? = some (.mapIter a b c d)):(getObj r).run Tryz.prog w=.ok (.mapIter a b c d) w:=by
 simp only [getObj,Sem.run]
 rw [h]
theorem run_nx {r since c0:Nat} {seen:Array Nat} (ty:TypeId) (hr:w.heap[r]? = some (.mapIter (some bm) since seen c0)) (hb:w.heap[bm]? = some (.map es clock)) (hold:∀ x∈es.toList,x.born < since) (hsc:since<=c0) :
  ((leftOf es seen).size=0/\(Instr.next (.pointer (some ⟨r,0,none⟩)) false ty).run Tryz.prog w=.ok (.tuple #[.bool false]) w) \/
  ∃ e∈(leftOf es seen).toList,∃ w1,(Instr.next (.pointer (some ⟨r,0,none⟩)) false ty).run Tryz.prog w=.ok (.tuple #[.bool true,e.key,e.val]) w1/\w1.heap[r]? = some (.mapIter (some bm) since (seen.push e.born) clock)/\Chg (· = r) w w1:=by
 have test:=next_test_false seen es since c0 hold hsc
 have hL:∀ x∈(leftOf es seen).toList,x.born < since:=fun x hx=>hold x (mem_left hx).1
 simp only [Instr.next,Sem.run_bind,run_getI hr,Result.andThen_ok,MapKept.run_getObj_map hb,test,Bool.false_eq_true,if_false]
 change ((leftOf es seen).size=0/\_)\/_
 rw [show (es.filter fun e => !seen.contains e.born)=leftOf es seen from rfl]
 obtain ⟨L,hLe⟩:∃ L,leftOf es seen=L:=⟨_,rfl⟩
 rw [hLe] at hL ⊢
 have old:(L.filter fun x=>decide (x.born < since))=L:=Array.filter_eq_self.2 (fun x hx=>by simpa using hL x (by simpa using hx))
 have new:(L.filter fun x=>decide (x.born >= since))=#[]:=Array.filter_eq_empty_iff.2 (fun x hx=>by have:=hL x (by simpa using hx); simp; omega)
 rw [old,new,Array.append_empty]
 by_cases h0:L.size=0
 ·refine .inl ⟨h0,?_⟩
  obtain rfl:L=#[]:=Array.eq_empty_of_size_eq_zero h0
  simp [choose,Sem.run,Question.forced]
 ·refine .inr ?_
  have ne:L.isEmpty=false:=by simp [Array.isEmpty,h0]
  rw [ne]
  have draw:∃ (j:Nat) (w1:World),j < L.size/\(w1=w\/w1=w.drew)/\(choose (Question.mapNext L.size)).run Tryz.prog w=.ok j w1:=by
   by_cases hf:L.size<=1
   ·exact ⟨0,w,by omega,.inl rfl,by simp [choose,Sem.run,Question.forced,hf]⟩
   ·exact ⟨_,w.drew,Nat.mod_lt _ (by omega),.inr rfl,by
     simp only [choose,Sem.run,Question.forced,decide_eq_true_eq,hf,if_false,Question.cut]
     rfl⟩
  obtain ⟨j,w1,hj,hw,hrun⟩:=draw
  have h1:w1.heap[r]? = some (.mapIter (some bm) since seen c0):=by rcases hw with rfl | rfl<;>exact hr
  refine ⟨L[j],by simp,wset w1 r (.mapIter (some bm) since (seen.push L[j].born) clock),?_,wset_at h1,?_⟩
  ·simp only [Bool.false_eq_true,if_false,Array.empty_append,Array.size_map,hrun,Result.andThen_ok,Array.getElem?_map,Array.getElem?_eq_getElem hj,Option.map_some,Sem.run_bind,run_setI h1,Sem.run_pure]
  ·have c:=wset_chg (w:=w1) r (.mapIter (some bm) since (seen.push L[j].born) clock)
   rcases hw with rfl | rfl
   ·exact c
   ·exact (Chg.of (F:=(· = r)) (Below.refl _ _).drew).trans c (fun _ _ h=>h)
theorem run_en0 {r since:Nat} {seen:Array Nat} {e:MapEntry} (hr:w.heap[r]? = some (.mapIter (some bm) since (seen.push e.born) clock)) (hb:w.heap[bm]? = some (.map es clock)) (he:e∈es.toList) (hn:(es.toList.map (·.born)).Nodup) :
  (Instr.entry (.pointer (some ⟨r,0,none⟩))).run Tryz.prog w=.ok (.tuple #[e.key,e.val]) w:=by
 have hf:es.find? (·.born == e.born)=some e:=by rw [<- Array.find?_toList]; exact find_born e es.toList hn he
 simp only [Instr.entry,Sem.run_bind,run_getI hr,Result.andThen_ok,MapKept.run_getObj_map hb,Array.back?_push,bne_self_eq_false,Bool.false_eq_true,if_false,hf,Sem.run_pure]
end
section
variable {P:Program} {n:Nat} {ds:List Deferred} {ops:Array Oper} {Q:Exit->Act->World->Prop} {rest:List Oper} {o:Oper} {l:Fr} {w:World}
theorem trg (d:Nat) {bm clock:Nat} {es:Array MapEntry} (hb:w.heap[bm]? = some (.map es clock)) (h:∀ w1 g,w1.heap[g]? = some (.mapIter (some bm) clock #[] clock)->w.heap.size<=g->Below w.heap.size w w1->GL Tryz.prog n ds ops Q rest ((d,pg g) :: l) w1) (hg:gd ops l o=some true:=by kernel_rfl) (hc:chk n l o (some d)=true:=by kernel_rfl) (ho:∃ x,o.op=.range 72 x/\evL l x=.map (some bm):=by exact ⟨_,rfl,by kernel_rfl⟩):GL Tryz.prog n ds ops Q (o :: rest) l w:=by
 obtain ⟨x,h0,h1⟩:=ho
 refine tw d (pg w.heap.size) _ ?_ (h _ _ (heap_alloc_new w _) (Nat.le_refl _) (below_alloc w _)) hg hc
 simp only [execOp,h0,h1,Sem.run_bind,run_range_map w _ _ _ bm es clock und_lm hb,Result.andThen_ok,Sem.run_pure]
theorem tnx (d:Nat) {r bm since c0 clock:Nat} {seen:Array Nat} {es:Array MapEntry} (hr:w.heap[r]? = some (.mapIter (some bm) since seen c0)) (hb:w.heap[bm]? = some (.map es clock)) (hold:∀ x∈es.toList,x.born < since) (hsc:since<=c0) (h0:(leftOf es seen).size=0->GL Tryz.prog n ds ops Q rest ((d,.tuple #[.bool false]) :: l) w)
  (h1:∀ e∈(leftOf es seen).toList,∀ w1,w1.heap[r]? = some (.mapIter (some bm) since (seen.push e.born) clock)->Chg (· = r) w w1->GL Tryz.prog n ds ops Q rest ((d,.tuple #[.bool true,e.key,e.val]) :: l) w1) (hg:gd ops l o=some true:=by kernel_rfl) (hc:chk n l o (some d)=true:=by kernel_rfl) (ho:∃ x,o.op=.next x false/\evL l x=.pointer (some ⟨r,0,none⟩):=by exact ⟨_,rfl,by kernel_rfl⟩):GL Tryz.prog n ds ops Q (o :: rest) l w:=by
 obtain ⟨x,k0,k1⟩:=ho
 rcases run_nx o.type hr hb hold hsc with ⟨e0,hu⟩ | ⟨e,he,w1,hu,a1,a2⟩
 ·refine tw d _ _ ?_ (h0 e0) hg hc
  simp only [execOp,k0,k1,Sem.run_bind,hu,Result.andThen_ok,Sem.run_pure]
 ·refine tw d _ _ ?_ (h1 e he w1 a1 a2) hg hc
  simp only [execOp,k0,k1,Sem.run_bind,hu,Result.andThen_ok,Sem.run_pure]
theorem run_en {ρ:Operand->Value} {r bm since clock:Nat} {seen:Array Nat} {es:Array MapEntry} (e:MapEntry) (hr:w.heap[r]? = some (.mapIter (some bm) since (seen.push e.born) clock)) (hb:w.heap[bm]? = some (.map es clock)) (he:e∈es.toList) (hn:(es.toList.map (·.born)).Nodup) (ho:∃ x,o.op=.entry x/\ρ x=.pointer (some ⟨r,0,none⟩):=by exact ⟨_,rfl,by kernel_rfl⟩):(execOp ρ o).run Tryz.prog w=.ok (.value (.tuple #[e.key,e.val])) w:=by
 obtain ⟨x,k0,k1⟩:=ho
 simp only [execOp,k0,k1,Sem.run_bind,run_en0 hr hb he hn,Result.andThen_ok,Sem.run_pure]
theorem trg0 (d:Nat) {n:Nat} {ds:List Deferred} {ops:Array Oper} {Q:Exit->Act->World->Prop} {rest:List Oper} {o:Oper} {l:Fr} {w:World} (h:∀ w1 g,w1.heap[g]? = some (.mapIter none 0 #[] 0)->w.heap.size<=g->Below w.heap.size w w1->GL Tryz.prog n ds ops Q rest ((d,pg g) :: l) w1) (hg:gd ops l o=some true:=by kernel_rfl) (hc:chk n l o (some d)=true:=by kernel_rfl) (ho:∃ x,o.op=.range 72 x/\evL l x=.map none:=by exact ⟨_,rfl,by kernel_rfl⟩):GL Tryz.prog n ds ops Q (o :: rest) l w:=by
 obtain ⟨x,h0,h1⟩:=ho
 refine tw d (pg w.heap.size) _ ?_ (h _ _ (heap_alloc_new w _) (Nat.le_refl _) (below_alloc w _)) hg hc
 simp only [execOp,h0,h1,Sem.run_bind,Instr.range,run_underlying und_lm,Result.andThen_ok,Sem.run_pure]
 rfl
theorem tnx0 (d:Nat) {n:Nat} {ds:List Deferred} {ops:Array Oper} {Q:Exit->Act->World->Prop} {rest:List Oper} {o:Oper} {l:Fr} {w:World} {r:Nat} (hr:w.heap[r]? = some (.mapIter none 0 #[] 0)) (h0:GL Tryz.prog n ds ops Q rest ((d,.tuple #[.bool false]) :: l) w) (hg:gd ops l o=some true:=by kernel_rfl) (hc:chk n l o (some d)=true:=by kernel_rfl) (ho:∃ x,o.op=.next x false/\evL l x=.pointer (some ⟨r,0,none⟩):=by exact ⟨_,rfl,by kernel_rfl⟩):GL Tryz.prog n ds ops Q (o :: rest) l w:=by
 obtain ⟨x,k0,k1⟩:=ho
 refine tw d _ _ ?_ h0 hg hc
 simp only [execOp,k0,k1,Sem.run_bind,Instr.next,run_getI hr,Result.andThen_ok,Sem.run_pure]
theorem tdel0 {n:Nat} {ds:List Deferred} {ops:Array Oper} {Q:Exit->Act->World->Prop} {rest:List Oper} {o:Oper} {l:Fr} {w:World} {v d:Int} (h:GL Tryz.prog n ds ops Q rest l w) (hg:gd ops l o=some true:=by kernel_rfl) (hc:chk n l o none=true:=by kernel_rfl) (ho:∃ x y,o.op=.call { callee:=.builtin .delete,args:=#[x,y],argTypes:=#[72,85] }/\o.type=0/\evL l x=.map none/\evL l y=kv2 v d:=by exact ⟨_,_,rfl,rfl,by kernel_rfl,by kernel_rfl⟩):GL Tryz.prog n ds ops Q (o :: rest) l w :=
 gl_val none (.tuple #[]) hg hc (run_delN ho) h
theorem tdel {n:Nat} {ds:List Deferred} {ops:Array Oper} {Q:Exit->Act->World->Prop} {rest:List Oper} {o:Oper} {l:Fr} {w:World} {bm clock:Nat} {L L':List Mn} {v d:Int} (hb:w.heap[bm]? = some (.map (mes L) clock)) (he:(match fm v d L 0 with | some p=>L.eraseIdx p.1 | none=>L)=L') (h:∀ w1,w1.heap[bm]? = some (.map (mes L') clock)->Chg (· = bm) w w1->GL Tryz.prog n ds ops Q rest l w1) (hg:gd ops l o=some true:=by kernel_rfl) (hc:chk n l o none=true:=by kernel_rfl) (ho:∃ x y,o.op=.call { callee:=.builtin .delete,args:=#[x,y],argTypes:=#[72,85] }/\o.type=0/\evL l x=.map (some bm)/\evL l y=kv2 v d:=by exact ⟨_,_,rfl,rfl,by kernel_rfl,by kernel_rfl⟩):GL Tryz.prog n ds ops Q (o :: rest) l w :=
 gl_val none (.tuple #[]) hg hc (run_del hb ho) (h _ (by rw [he]; exact wset_at hb) (wset_chg _ _))
theorem tmk (d:Nat) (h:∀ w1 g,w1.heap[g]? = some (.map #[] 0)->w.heap.size<=g->Below w.heap.size w w1->GL P n ds ops Q rest ((d,.map (some g)) :: l) w1) (hg:gd ops l o=some true:=by kernel_rfl) (hc:chk n l o (some d)=true:=by kernel_rfl) (hrun:(execOp (evL l) o).run P w=.ok (.value (.map (some w.heap.size))) (w.alloc (.map #[] 0)):=by kernel_rfl):GL P n ds ops Q (o :: rest) l w :=
 tw d _ _ hrun (h _ _ (heap_alloc_new w _) (Nat.le_refl _) (below_alloc w _)) hg hc
end
end Lg
end
section
namespace Pg
open Go.RowKit Go.Lib
structure Rw (w:World) (E:TypeId) (k b n c:Nat) (xs:List Value):Prop where
 ex:∃ sp,Blk w b (xs ++ sp) E/\xs.length=n * k/\(xs ++ sp).length=c * k/\n<=c/\c<=maxLen
theorem Rw.lt {w:World} {E:TypeId} {k b n c:Nat} {xs:List Value} (h:Rw w E k b n c xs):b < w.heap.size:=by
 obtain ⟨sp,h,_⟩:=h.ex; exact h.lt
theorem Rw.same {w w':World} {E:TypeId} {k b n c:Nat} {xs:List Value} (h:Rw w E k b n c xs) (hb:w'.heap[b]? = w.heap[b]?):Rw w' E k b n c xs:=by
 obtain ⟨sp,h,h'⟩:=h.ex; exact ⟨sp,h.same hb,h'⟩
theorem Rw.keep {w w':World} {E:TypeId} {k b n c:Nat} {xs:List Value} (h:Rw w E k b n c xs) (hb:Below w.heap.size w w'):Rw w' E k b n c xs:=h.same (hb.block b h.lt)
theorem Rw.chg {F:Nat->Prop} {w w':World} {E:TypeId} {k b n c:Nat} {xs:List Value} (h:Rw w E k b n c xs) (hb:Chg F w w') (hg:¬ F b):Rw w' E k b n c xs:=h.same (hb.same b h.lt hg)
theorem Rw.cell {w:World} {E:TypeId} {k b n c:Nat} {xs:List Value} (h:Rw w E k b n c xs) {i:Nat} {v:Value} (hi:xs[i]? = some v):w.cell? ⟨b,i,none⟩=some v:=by
 obtain ⟨sp,h,_⟩:=h.ex
 exact h.cell (by rw [List.getElem?_append_left (List.getElem?_eq_some_iff.1 hi).1]; exact hi)
theorem Rw.kind {w:World} {E:TypeId} {k b n c:Nat} {xs:List Value} (h:Rw w E k b n c xs):∃ cs,Blk w b cs E:=by
 obtain ⟨sp,h,_⟩:=h.ex; exact ⟨_,h⟩
section
variable {P:Program} {w:World} {T E:TypeId} {k bytes:Nat} {z:Value}
structure Kd (P:Program) (T E:TypeId) (k bytes:Nat) (z:Value):Prop where
 und:P.underlying T=some (.slice E)
 inf:(P.info? E).map (fun i=>(i.zero,i.size,i.bytes))=some (some z,k,bytes)
 zs:z.cells.size=k
 z1:∀ v∈z.cells,v.oneCell'=true
 k0:0 < k
theorem new_row (w:World) (E:TypeId) (zc:Array Value) (k n c:Nat) (xs:List Value) (hz:zc.size=k) (hx:xs.length=n * k) (hn:n<=c) (hc:c<=maxLen) :
  Rw (w.drew.alloc (.cells (xs.toArray ++ Builtin.zeroCells zc (c - n)) E)) E k w.heap.size n c xs :=
 ⟨(Builtin.zeroCells zc (c - n)).toList,⟨by
  have:=(blk_new w.drew (xs ++ (Builtin.zeroCells zc (c - n)).toList) E).blk
  rw [show (xs ++ (Builtin.zeroCells zc (c - n)).toList).toArray=xs.toArray ++ Builtin.zeroCells zc (c - n) by apply Array.ext'; simp] at this ⊢
  exact this⟩,hx,by
  rw [List.length_append,hx,Array.length_toList,size_zeroCells,hz,<- Nat.add_mul]; congr 1; omega,hn,hc⟩
theorem app_row (H:Kd P T E k bytes z) (ty:TypeId) {b n c:Nat} {xs:List Value} (R:Rw w E k b n c xs) (a:Addr) (m cc:Nat) (news:List Value) (hl:news.length=m * k) (hnews:∀ j u,news[j]? = some u->w.cell? (a.add j)=some u) (h1:∀ u∈news,u.oneCell'=true)
  (hbig:(n + m) * bytes<=140737488355328) (hm:n + m<=140737488355328) :
  ∃ b' c' w',(Builtin.append_ #[T,T] ty #[.slice (some ⟨b,0,none⟩) n c,.slice (some a) m cc]).run P w=.ok (.slice (some ⟨b',0,none⟩) (n + m) c') w'/\(b'=b\/b'=w.heap.size)/\Rw w' E k b' (n + m) c' (xs ++ news)/\Chg (· = b) w w':=by
 obtain ⟨i,hi,hz,hs,hb⟩:=info_parts H.inf
 obtain ⟨sp,hB,hx,hc,hnc,hcm⟩:=R.ex
 subst hs hb
 have hmx:n + m<=maxLen:=by simp only [maxLen]; omega
 by_cases hroom:n + m<=c
 ·have hfit:n * i.size + news.length<=(xs ++ sp).toArray.size:=by
   rw [List.size_toArray,hc,hl,<- Nat.add_mul]; exact Nat.mul_le_mul_right _ hroom
  have hr:=run_append_room (P:=P) w T ty E i H.und hi b n c (xs ++ sp).toArray hB.blk a m cc news hl hnews h1 hroom hfit
  refine ⟨b,c,_,hr,.inl rfl,⟨sp.drop news.length,?_,by rw [List.length_append,hx,hl,Nat.add_mul],?_,hroom,hcm⟩,(Chg.refl (· = b) w).row (g:=b) (.inl rfl) _⟩
  ·have:=hB.row (xs ++ news ++ sp.drop news.length)
   have e:(xs ++ sp).toArray.toList.take (n * i.size) ++ news ++ (xs ++ sp).toArray.toList.drop (n * i.size + news.length)=xs ++ news ++ sp.drop news.length:=by
    rw [show (xs ++ sp).toArray.toList=xs ++ sp from rfl,<- hx,List.take_left,<- List.drop_drop,List.drop_left]
   rw [e]; exact this
  ·have h2:xs.length + sp.length=c * i.size:=by rw [<- List.length_append]; exact hc
   have h3:n * i.size + m * i.size<=c * i.size:=by rw [<- Nat.add_mul]; exact Nat.mul_le_mul_right _ hroom
   rw [List.length_append,List.length_append,List.length_drop]; omega
 ·have holds:∀ j u,xs[j]? = some u->w.cell? ((⟨b,0,none⟩:Addr).add j)=some u:=fun j u hj=>by rw [Addr.add_lit,Nat.zero_add]; exact R.cell hj
  have hr:=run_append_grow (P:=P) w T ty E i z H.und hi hz ⟨b,0,none⟩ n c xs hx holds a m cc news hl hnews (by omega) (by omega) (growslice_fits (by omega) hbig)
  refine ⟨w.heap.size,_,_,hr,.inr rfl,?_,(Chg.refl _ w).drew.alloc _⟩
  have:=new_row w E z.cells i.size (n + m) (grownCap w (n + m) c E) (xs ++ news) H.zs (by rw [List.length_append,hx,hl,Nat.add_mul]) (grownCap_ge w _ _ _) (grownCap_le_maxLen w _ _ _ hmx)
  simpa using this
theorem app_nil (H:Kd P T E k bytes z) (ty:TypeId) (a:Addr) (m cc:Nat) (news:List Value) (hl:news.length=m * k) (hnews:∀ j u,news[j]? = some u->w.cell? (a.add j)=some u)
  (h0:0 < m) (hbig:m * bytes<=140737488355328) (hm:m<=140737488355328) :
  ∃ c' w',(Builtin.append_ #[T,T] ty #[.slice none 0 0,.slice (some a) m cc]).run P w=.ok (.slice (some ⟨w.heap.size,0,none⟩) m c') w'/\Rw w' E k w.heap.size m c' news/\Below w.heap.size w w':=by
 obtain ⟨i,hi,hz,hs,hb⟩:=info_parts H.inf
 subst hs hb
 have hr:=run_append_nil (P:=P) w T ty E i z H.und hi hz a m cc news hl hnews h0 (by omega) (by omega)
 refine ⟨_,_,hr,?_,?_⟩
 ·exact new_row w E z.cells i.size m (grownCap w m 0 E) news H.zs hl (grownCap_ge w _ _ _) (grownCap_le_maxLen w _ _ _ (by simp only [maxLen]; omega))
 ·exact (Below.refl _ w).trans ⟨rfl,rfl,rfl,by simp,fun b hb=>by
   have:=(below_alloc w.drew (.cells (news.toArray ++ Builtin.zeroCells z.cells (grownCap w m 0 E - m)) E)).block b hb
   exact this⟩
end
end Pg
end
section
namespace Lg
open Go.RowKit Go.Lib Lim Pg Gl
structure RZ (w:World) (a:Option Addr) (n c:Nat) (b:Option Addr) (m d:Nat) (r:Rat):Prop where
 ex:RQ w a n c b m d r\/((a=none/\n=0/\c=0)/\(b=none/\m=0/\d=0)/\r=0)
section
variable {w w':World} {a b:Option Addr} {n c m d B:Nat} {r:Rat}
theorem RQ.z (h:RQ w a n c b m d r):RZ w a n c b m d r:=⟨.inl h⟩
theorem rz_nil:RZ w none 0 0 none 0 0 0:=⟨.inr ⟨⟨rfl,rfl,rfl⟩,⟨rfl,rfl,rfl⟩,rfl⟩⟩
theorem RZ.lp (h:RZ w a n c b m d r) (P:Lp w w'):RZ w' a n c b m d r:=⟨h.ex.imp (fun k=>k.lp P) id⟩
theorem RZ.keep (h:RZ w a n c b m d r) (k:Below w.heap.size w w'):RZ w' a n c b m d r:=h.lp (Lp.of k)
theorem RZ.drew (h:RZ w a n c b m d r):RZ w.drew a n c b m d r:=h.keep (Below.refl _ _).drew
theorem RZ.cg {g:Nat} {cs:List Value} {t:TypeId} (h:RZ w a n c b m d r) (X:Blk w g cs t) (C:Chg (· = g) w w') (hn:cs.all nu=true):RZ w' a n c b m d r:=h.lp (Lp.cg X C hn)
theorem RZ.is {s:Rat} (h:RZ w a n c b m d r) (e:r=s):RZ w a n c b m d s:=e▸h
theorem RZ.nn (h:RZ w a n c b m d r):0<=r:=by
 rcases h.ex with k | ⟨_,_,rfl⟩
 ·exact k.nn
 ·exact Rat.le_refl
theorem RZ.v (h:RZ w a n c b m d r) (hf:Ft r (64 * B)):VQ w a n c b m d r B:=by
 rcases h.ex with k | ⟨⟨rfl,rfl,rfl⟩,⟨rfl,rfl,rfl⟩,rfl⟩
 ·exact k.v hf
 ·exact ⟨0,1,qv_nil,by decide +kernel⟩
end
def rsl (l:List (Int × Int)):Rat:=((rsum l).1:Rat) / ((rsum l).2:Rat)
theorem rsl_nil:rsl []=0:=by decide +kernel
theorem rsl_cons {l:List (Int × Int)} {x y:Int} (hy:0<=y) (h:∀ v∈l,0<=v.1/\0<=v.2):rsl ((x,y) :: l)=(cn x y:Rat) / (cd y:Rat) + rsl l:=by
 have k:=(rsum_pos l h).1
 unfold rsl
 rw [fr_add (cd_pos hy) k,show rsum ((x,y) :: l)=l.foldl rstep (rstep (0,1) (x,y)) from rfl,rfold]
 simp only [rstep]
 congr 2<;>grind
theorem pSum {w:World} {ao:Option Addr} {n c B:Nat} {l:List (Int × Int)} (hl:l.length=n) (hn:n<=100) (hb:B<=20000) (h:RatL w ao l B) :
  Calls Tryz.prog 58 #[.slice ao n c] w fun e w'=>∃ a k d a' k' d',e=.returned (.agg #[.slice a k d,.slice a' k' d'])/\RQ w' a k d a' k' d' (rsl l)/\Below w.heap.size w w':=by
 obtain ⟨s1,s2⟩:=rsum_pos l h.nonneg
 have h0:n * (B + 2)<=100 * 20002:=Nat.mul_le_mul hn (by omega)
 have hW:n * (2 * B + 4 + n * (B + 2))<=100 * (2 * 20000 + 4 + 100 * 20002):=Nat.mul_le_mul hn (by omega)
 refine (qSum (B:=B) hl (by omega) h (by omega) (by omega) (by omega)).mono ?_
 rintro e w1 ⟨a,k,d,a',k',d',N,D,rfl,O1,O2,R,hk,hk',hB⟩
 exact ⟨a,k,d,a',k',d',rfl,⟨_,_,1000000000,pairR O1 O2 R s1 s2 (by omega) (by omega),rfl⟩,hB⟩
abbrev RZv (w:World) (v:RV) (r:Rat):Prop:=RZ w v.1 v.2.1 v.2.2.1 v.2.2.2.1 v.2.2.2.2.1 v.2.2.2.2.2 r
def tot:List (RV × Rat)->Rat
 | []=>0
 | a :: l=>a.2 + tot l
theorem tot_app {l m:List (RV × Rat)}:tot (l ++ m)=tot l + tot m:=by
 induction l with
 | nil=>simp only [List.nil_append,tot]; grind
 | cons a l ih=>simp only [List.cons_append,tot,ih]; grind
abbrev fl2 (l:List (RV × Rat)):List Value:=l.flatMap fun p=>[sA p.1,sB p.1]
theorem fl2_app {l m:List (RV × Rat)}:fl2 (l ++ m)=fl2 l ++ fl2 m:=List.flatMap_append
theorem fl2_at {l:List (RV × Rat)} {i:Nat} (h:i < l.length):(fl2 l)[i * 2]? = some (sA l[i].1)/\(fl2 l)[i * 2 + 1]? = some (sB l[i].1):=by
 induction l generalizing i with
 | nil=>simp at h
 | cons a l ih =>
  cases i with
  | zero=>exact ⟨rfl,rfl⟩
  | succ i =>
   have:=ih (i:=i) (by simpa using h)
   rw [show (i + 1) * 2=i * 2 + 2 by omega]
   exact this
abbrev RZs (w:World) (N:Nat) (l:List (RV × Rat)):Prop:=∀ p∈l,RZv w p.1 p.2/\Ft p.2 N
theorem RZs.raw {w:World} {B:Nat} {l:List (RV × Rat)} (h:RZs w (64 * B) l):∃ r:List (Int × Int),r.length=l.length/\rsl r=tot l/\(∀ v∈r,0<=v.1/\0<=v.2)/\∀ i (h1:i < r.length) (h2:i < l.length),NatA w l[i].1.1 l[i].1.2.1 l[i].1.2.2.1 r[i].1/\NatA w l[i].1.2.2.2.1 l[i].1.2.2.2.2.1 l[i].1.2.2.2.2.2 r[i].2/\l[i].1.2.1<=B/\l[i].1.2.2.2.2.1<=B:=by
 induction l with
 | nil=>exact ⟨[],rfl,rsl_nil,fun _ h=>absurd h (by simp),fun i h1=>absurd h1 (by simp)⟩
 | cons a l ih =>
  obtain ⟨r,h1,h2,h3,h4⟩:=ih fun p hp=>h p (List.mem_cons_of_mem _ hp)
  obtain ⟨k1,k2⟩:=h a List.mem_cons_self
  obtain ⟨p,q,V,e⟩:=(k1.v k2).ex
  obtain ⟨x,y,g1,g2,g3⟩:=V.ex
  refine ⟨(x,y) :: r,by simp [h1],?_,?_,?_⟩
  ·rw [rsl_cons g2.nonneg h3,h2]
   simp only [tot]
   rw [e,(eq_fr (cd_pos g2.nonneg) V.q0).2 g3]
  ·intro v hv
   rcases List.mem_cons.1 hv with rfl | hv
   ·exact ⟨g1.nonneg,g2.nonneg⟩
   ·exact h3 v hv
  ·intro i i1 i2
   cases i with
   | zero=>exact ⟨g1,g2,V.hn,V.hm⟩
   | succ i=>exact h4 i (by simpa using i1) (by simpa using i2)
theorem RZs.snoc {w:World} {N:Nat} {l:List (RV × Rat)} (h:RZs w N l) {v:RV} {r:Rat} (hz:RZv w v r) (hf:Ft r N):RZs w N (l ++ [(v,r)]):=fun p hp=>by
 rcases List.mem_append.1 hp with k | k
 ·exact h p k
 ·rw [List.mem_singleton] at k
  subst k
  exact ⟨hz,hf⟩
theorem ratl_one {w:World} {g B:Nat} {v:RV} {r:Rat} {t:TypeId} (X:Blk w g [sA v,sB v] t) (h:RZv w v r) (hf:Ft r (64 * B)):∃ l:List (Int × Int),l.length=1/\rsl l=r/\RatL w (some ⟨g,0,none⟩) l B:=by
 obtain ⟨l,h1,h2,h3,h4⟩:=RZs.raw (w:=w) (B:=B) (l:=[(v,r)]) fun p hp=>by
  rw [List.mem_singleton] at hp
  subst hp
  exact ⟨h,hf⟩
 refine ⟨l,h1,by rw [h2]; simp only [tot]; grind,⟨fun i hi => ?_⟩⟩
 have hi':i=0:=by simp only [h1,List.length_singleton] at hi; omega
 subst hi'
 obtain ⟨k1,k2,k3,k4⟩:=h4 0 hi (by simp)
 exact ⟨g,0,_,_,_,_,_,_,rfl,X.cell (by rfl),X.cell (by rfl),k1,k2,k3,k4⟩
theorem pSum1 {w:World} {g B c:Nat} {v:RV} {r:Rat} {t:TypeId} (X:Blk w g [sA v,sB v] t) (h:RZv w v r) (hf:Ft r (64 * B)) (hb:B<=20000) :
  Calls Tryz.prog 58 #[.slice (some ⟨g,0,none⟩) 1 c] w fun e w'=>∃ a k d a' k' d',e=.returned (.agg #[.slice a k d,.slice a' k' d'])/\RQ w' a k d a' k' d' r/\Below w.heap.size w w':=by
 obtain ⟨l,h1,h2,h3⟩:=ratl_one X h hf
 have:=pSum (c:=c) h1 (by decide) hb h3
 rwa [h2] at this
theorem pSum0 {w:World}:Calls Tryz.prog 58 #[.slice none 0 0] w fun e w'=>∃ a k d a' k' d',e=.returned (.agg #[.slice a k d,.slice a' k' d'])/\RQ w' a k d a' k' d' 0/\Below w.heap.size w w':=by
 have:=pSum (w:=w) (ao:=none) (c:=0) (B:=1) (l:=[]) rfl (by decide) (by decide) ⟨fun i hi=>absurd hi (by simp)⟩
 rwa [rsl_nil] at this
theorem KRt:Kd Tryz.prog 61 40 2 48 (.agg #[.slice none 0 0,.slice none 0 0]):=⟨by kernel_rfl,by kernel_rfl,rfl,by simp [Value.cells,Value.oneCell'],by decide⟩
structure Pts (w:World) (B:Nat) (ao:Option Addr) (n c:Nat) (l:List (RV × Rat)):Prop where
 ex:(ao=none/\n=0/\c=0/\l=[])\/∃ b,ao=some ⟨b,0,none⟩/\B<=b/\l.length=n/\Rw w 40 2 b n c (fl2 l)
section
variable {w w':World} {B n c:Nat} {ao:Option Addr} {l:List (RV × Rat)}
theorem Pts.nil:Pts w B none 0 0 []:=⟨.inl ⟨rfl,rfl,rfl,rfl⟩⟩
theorem Pts.keep (h:Pts w B ao n c l) (k:Below w.heap.size w w'):Pts w' B ao n c l:=⟨h.ex.imp id fun ⟨b,h1,h2,h3,h4⟩=>⟨b,h1,h2,h3,h4.keep k⟩⟩
theorem Pts.chg {g:Nat} {cs:List Value} {t:TypeId} (h:Pts w B ao n c l) (X:Blk w g cs t) (ht:t≠40) (C:Chg (· = g) w w'):Pts w' B ao n c l:=⟨h.ex.imp id fun ⟨b,h1,h2,h3,h4⟩=>⟨b,h1,h2,h3,h4.chg C fun e=>by
 obtain ⟨cs',Y⟩:=h4.kind
 have hx:=X.blk
 have hy:=Y.blk
 rw [show b=g from e,hx] at hy
 cases hy
 exact ht rfl⟩⟩
theorem Pts.ne {g:Nat} {cs:List Value} {t:TypeId} (h:Pts w B ao n c l) (X:Blk w g cs t) (ht:t≠40):¬ (B<=g/\∃ o,ao=some ⟨g,o,none⟩):=by
 rintro ⟨_,o,e⟩
 rcases h.ex with ⟨h1,_⟩ | ⟨b,h1,_,_,h4⟩
 ·rw [h1] at e; cases e
 ·rw [h1] at e
  cases e
  obtain ⟨cs',Y⟩:=h4.kind
  have hx:=X.blk
  have hy:=Y.blk
  rw [hx] at hy
  cases hy
  exact ht rfl
theorem Pts.nob {g:Nat} {o:Obj} (h:Pts w B ao n c l) (I:w.heap[g]? = some o) (ho:∀ cs t m,o≠.cells cs t m):¬ (B<=g/\∃ k,ao=some ⟨g,k,none⟩):=by
 rintro ⟨_,k,e⟩
 rcases h.ex with ⟨h1,_⟩ | ⟨b,h1,_,_,h4⟩
 ·rw [h1] at e; cases e
 ·rw [h1] at e
  cases e
  obtain ⟨cs',Y⟩:=h4.kind
  have hy:=Y.blk
  rw [I] at hy
  cases hy
  exact ho _ _ _ rfl
theorem Pts.it {g:Nat} {o:Obj} (h:Pts w B ao n c l) (I:w.heap[g]? = some o) (ho:∀ cs t m,o≠.cells cs t m) (C:Chg (· = g) w w'):Pts w' B ao n c l:=⟨h.ex.imp id fun ⟨b,h1,h2,h3,h4⟩=>⟨b,h1,h2,h3,h4.chg C fun e=>h.nob I ho ⟨(show b=g from e)▸h2,0,(show b=g from e)▸h1⟩⟩⟩
theorem Pts.len (h:Pts w B ao n c l):l.length=n:=by
 rcases h.ex with ⟨_,rfl,_,rfl⟩ | ⟨b,_,_,h,_⟩
 ·rfl
 ·exact h
theorem Pts.ratl {N:Nat} (h:Pts w B ao n c l) (hz:RZs w (64 * N) l):∃ r:List (Int × Int),r.length=n/\rsl r=tot l/\RatL w ao r N:=by
 obtain ⟨r,h1,h2,h3,h4⟩:=RZs.raw hz
 refine ⟨r,by rw [h1,h.len],h2,⟨fun i hi => ?_⟩⟩
 have hi':i < l.length:=by omega
 obtain ⟨k1,k2,k3,k4⟩:=h4 i hi hi'
 rcases h.ex with ⟨_,_,_,rfl⟩ | ⟨b,e,_,_,R⟩
 ·simp at hi'
 ·have q:=fl2_at hi'
  exact ⟨b,0,_,_,_,_,_,_,e,by rw [Nat.zero_add]; exact R.cell q.1,by rw [Nat.zero_add]; exact R.cell q.2,k1,k2,k3,k4⟩
theorem Pts.app (h:Pts w B ao n c l) (hw:B<=w.heap.size) (hn:n<=1000000) {ty:TypeId} {x cc:Nat} {t:TypeId} {v:RV} {r:Rat} (X:Blk w x [sA v,sB v] t) :
  ∃ ao' c' w',(Builtin.append_ #[61,61] ty #[.slice ao n c,.slice (some ⟨x,0,none⟩) 1 cc]).run Tryz.prog w=.ok (.slice ao' (n + 1) c') w'/\Pts w' B ao' (n + 1) c' (l ++ [(v,r)])/\Chg (fun q=>B<=q/\∃ o,ao=some ⟨q,o,none⟩) w w':=by
 have hnews:∀ j u,([sA v,sB v]:List Value)[j]? = some u->w.cell? ((⟨x,0,none⟩:Addr).add j)=some u:=fun j u hj=>by rw [Addr.add_lit,Nat.zero_add]; exact X.cell hj
 rcases h.ex with ⟨rfl,rfl,rfl,rfl⟩ | ⟨b,rfl,hb,hl,R⟩
 ·obtain ⟨c',w',e1,e2,e3⟩:=app_nil KRt ty (w:=w) ⟨x,0,none⟩ 1 cc [sA v,sB v] rfl hnews (by decide) (by decide) (by decide)
  exact ⟨_,c',w',e1,⟨.inr ⟨w.heap.size,rfl,hw,rfl,e2⟩⟩,Chg.of e3⟩
 ·obtain ⟨b',c',w',e1,e2,e3,e4⟩:=app_row KRt ty R ⟨x,0,none⟩ 1 cc [sA v,sB v] rfl hnews (by simp [Value.oneCell']) (by omega) (by omega)
  refine ⟨_,c',w',e1,⟨.inr ⟨b',rfl,by rcases e2 with rfl | rfl; exact hb; exact hw,by simp [hl],by rw [fl2_app]; exact e3⟩⟩,e4.mono ?_⟩
  rintro q _ rfl
  exact ⟨hb,0,rfl⟩
end
theorem run_apR {ρ:Operand->Value} {w w':World} {o:Oper} {u v r:Value} (hr:(Builtin.append_ #[61,61] 61 #[u,v]).run Tryz.prog w=.ok r w') (ho:∃ x y,o.op=.call { callee:=.builtin .append,args:=#[x,y],argTypes:=#[61,61] }/\o.type=61/\ρ x=u/\ρ y=v:=by exact ⟨_,_,rfl,rfl,by kernel_rfl,by kernel_rfl⟩):(execOp ρ o).run Tryz.prog w=.ok (.value r) w':=by
 obtain ⟨x,y,h,h0,h1,h2⟩:=ho
 unfold execOp
 simp only [h,h0,resolve,invoke,builtin,Sem.run_bind,Sem.run_pure,Result.andThen_ok,List.map_toArray,List.map_cons,List.map_nil,h1,h2,hr]
abbrev PF (c B:Nat) (ao:Option Addr):Nat->Prop:=fun q=>q=c\/(B<=q/\∃ o,ao=some ⟨q,o,none⟩)
end Lg
end
section
namespace Lg
open Go.RowKit Go.Lib Lim Pg Gl
structure Ms where
 v:Int
 d:Int
 g:Nat
 b:Nat
 wv:RV
 ov:RV
 r:Rat
 o:Rat
 p:Int
 k:Int
abbrev Ms.n (m:Ms):Mn:=⟨m.v,m.d,m.g,m.b⟩
abbrev Ms.t (m:Ms):Stk:=(m.r,m.o,m.p,m.k)
abbrev Ms.s (m:Ms):(Int × Int) × Stk:=((m.v,m.d),m.t)
abbrev Ms.c (m:Ms):List Value:=[sA m.wv,sB m.wv,sA m.ov,sB m.ov,.int .i64 m.p,.int .i64 m.k]
abbrev LK (g bm:Nat) (L:List Ms):Nat->Prop:=fun q=>q=g\/q=bm\/∃ m∈L,q=m.g
structure MapL (w:World) (bm clock:Nat) (L:List Ms):Prop where
 ob:w.heap[bm]? = some (.map (mes (L.map Ms.n)) clock)
 nd:(L.map Ms.b).Nodup
 lt:∀ m∈L,m.b < clock
 blk:∀ m∈L,Blk w m.g m.c 79
 q:∀ m∈L,RZv w m.wv m.r/\RZv w m.ov m.o
 dist:L.Pairwise fun a b=>a.g≠b.g
 rg:∀ m∈L,(0<=m.v/\m.v < 18446744073709551616)/\(0<=m.d/\m.d < 18446744073709551616)
def Lm (w:World) (g:Nat) (K:Nat->Prop) (S:St):Prop:=(∃ bm clock L,Blk w g [.map (some bm)] 74/\MapL w bm clock L/\S=L.map Ms.s/\Un S/\K=LK g bm L)\/(Blk w g [.map none] 74/\S=[]/\K=(· = g))
section
variable {w w':World} {g bm clock:Nat} {K F:Nat->Prop} {S:St} {L:List Ms}
theorem MapL.off (M:MapL w bm clock L) (C:Chg F w w') (P:Lp w w') (h0:¬ F bm) (h:∀ m∈L,¬ F m.g):MapL w' bm clock L :=
 ⟨(C.same bm (lt_of_block M.ob) h0).trans M.ob,M.nd,M.lt,fun m hm=>(M.blk m hm).chg C (h m hm),fun m hm=>⟨(M.q m hm).1.lp P,(M.q m hm).2.lp P⟩,M.dist,M.rg⟩
theorem MapL.keep (M:MapL w bm clock L) (B:Below w.heap.size w w'):MapL w' bm clock L:=M.off (F:=fun _=>False) (Chg.of B) (Lp.of B) (fun h=>h) (fun _ _ h=>h)
theorem Lm.off (M:Lm w g K S) (C:Chg F w w') (P:Lp w w') (h:∀ b,K b->¬ F b):Lm w' g K S:=by
 rcases M with ⟨bm,clock,L,X,M,h1,h2,rfl⟩ | ⟨X,h1,rfl⟩
 ·exact .inl ⟨bm,clock,L,X.chg C (h g (.inl rfl)),M.off C P (h bm (.inr (.inl rfl))) (fun m hm=>h m.g (.inr (.inr ⟨m,hm,rfl⟩))),h1,h2,rfl⟩
 ·exact .inr ⟨X.chg C (h g rfl),h1,rfl⟩
theorem Lm.keep (M:Lm w g K S) (B:Below w.heap.size w w'):Lm w' g K S:=M.off (F:=fun _=>False) (Chg.of B) (Lp.of B) (fun _ _ h=>h)
theorem Lm.drew (M:Lm w g K S):Lm w.drew g K S:=M.keep (Below.refl _ _).drew
theorem Lm.lt (M:Lm w g K S) {b:Nat} (h:K b):b < w.heap.size:=by
 rcases M with ⟨bm,clock,L,X,M,h1,h2,rfl⟩ | ⟨X,h1,rfl⟩
 ·rcases h with rfl | rfl | ⟨m,hm,rfl⟩
  ·exact X.lt
  ·exact lt_of_block M.ob
  ·exact (M.blk m hm).lt
 ·rw [show b=g from h]; exact X.lt
end
theorem fndL (L:List Ms) (v d:Int):(∀ m∈L,¬ (m.v=v/\m.d=d))\/∃ A m B,L=A ++ m :: B/\(m.v=v/\m.d=d)/\∀ m'∈A,¬ (m'.v=v/\m'.d=d):=by
 induction L with
 | nil=>exact .inl fun m h=>absurd h (by simp)
 | cons a L ih =>
  by_cases h:a.v=v/\a.d=d
  ·exact .inr ⟨[],a,L,rfl,h,fun m h=>absurd h (by simp)⟩
  ·rcases ih with k | ⟨A,m,B,e,k1,k2⟩
   ·refine .inl fun m hm => ?_
    rcases List.mem_cons.1 hm with rfl | hm
    ·exact h
    ·exact k m hm
   ·refine .inr ⟨a :: A,m,B,by rw [e]; rfl,k1,fun m' hm => ?_⟩
    rcases List.mem_cons.1 hm with rfl | hm
    ·exact h
    ·exact k2 m' hm
section
variable {L A B:List Ms} {m:Ms} {v d:Int}
theorem fm_N (h:∀ m∈L,¬ (m.v=v/\m.d=d)):fm v d (L.map Ms.n) 0=none:=fm_no fun m' hm=>by
 obtain ⟨m,h1,rfl⟩:=List.mem_map.1 hm
 exact h m h1
theorem fm_Y (hm:m.v=v/\m.d=d) (h:∀ m'∈A,¬ (m'.v=v/\m'.d=d)):fm v d ((A ++ m :: B).map Ms.n) 0=some (A.length,m.g):=by
 have:=fm_yes (v:=v) (d:=d) (L:=(A ++ m :: B).map Ms.n) (i:=0) (k:=A.length) (m:=m.n) (by simp) hm fun j m' hj hm'=>by
  rw [List.map_append,List.getElem?_append_left (by simpa using hj)] at hm'
  obtain ⟨x,h1,rfl⟩:=List.mem_map.1 (List.mem_of_getElem? hm')
  exact h x h1
 simpa using this
theorem get_N (h:∀ m∈L,¬ (m.v=v/\m.d=d)):sGet (L.map Ms.s) v d=none:=by
 unfold sGet
 rw [List.find?_eq_none.2]
 ·rfl
 ·intro e he
  obtain ⟨m,hm,rfl⟩:=List.mem_map.1 he
  simpa using h m hm
theorem get_Y (hm:m.v=v/\m.d=d) (h:∀ m'∈A,¬ (m'.v=v/\m'.d=d)):sGet ((A ++ m :: B).map Ms.s) v d=some m.t:=by
 unfold sGet
 rw [List.map_append,List.find?_append,List.find?_eq_none.2]
 ·simp [hm]
 ·intro e he
  obtain ⟨m,hm,rfl⟩:=List.mem_map.1 he
  simpa using h m hm
theorem un_oth (hU:Un ((A ++ m :: B).map Ms.s)) (hm:m.v=v/\m.d=d):∀ m'∈A ++ B,¬ (m'.v=v/\m'.d=d):=by
 intro m' h k
 unfold Un at hU
 rw [List.pairwise_map] at hU
 rw [List.pairwise_append,List.pairwise_cons] at hU
 have e:m.s.1=m'.s.1:=by simp [hm,k]
 rcases List.mem_append.1 h with h | h
 ·exact hU.2.2 m' h m List.mem_cons_self e.symm
 ·exact hU.2.1.1 m' h e
theorem at_eq {f:Stk->Stk} {m2:Ms} (hU:Un ((A ++ m :: B).map Ms.s)) (hm:m.v=v/\m.d=d) (h1:m2.v=m.v/\m2.d=m.d) (h2:m2.t=f m.t):(A ++ m2 :: B).map Ms.s=sAt ((A ++ m :: B).map Ms.s) v d f:=by
 have ho:=un_oth hU hm
 unfold sAt
 rw [List.map_map,List.map_append,List.map_append,List.map_cons,List.map_cons]
 have same:∀ l:List Ms,(∀ x∈l,¬ (x.v=v/\x.d=d))->l.map Ms.s=l.map ((fun e:(Int × Int) × Stk=>if e.1.1=v/\e.1.2=d then (e.1,f e.2) else e) ∘ Ms.s):=fun l hl=>List.map_congr_left fun x hx=>by
  simp only [Function.comp]
  rw [if_neg (hl x hx)]
 rw [same A fun x hx=>ho x (List.mem_append.2 (.inl hx)),same B fun x hx=>ho x (List.mem_append.2 (.inr hx))]
 congr 2
 simp only [Function.comp]
 rw [if_pos hm]
 simp only [Ms.s,h1,h2]
theorem drop_eq (hU:Un ((A ++ m :: B).map Ms.s)) (hm:m.v=v/\m.d=d):(A ++ B).map Ms.s=sDrop ((A ++ m :: B).map Ms.s) v d:=by
 have ho:=un_oth hU hm
 unfold sDrop
 rw [List.map_append,List.map_append,List.map_cons,List.filter_append,List.filter_cons,if_neg (by simp [hm])]
 have same:∀ l:List Ms,(∀ x∈l,¬ (x.v=v/\x.d=d))->(l.map Ms.s).filter (fun e => !(e.1.1 == v && e.1.2 == d))=l.map Ms.s:=fun l hl=>List.filter_eq_self.2 fun e he=>by
  obtain ⟨x,hx,rfl⟩:=List.mem_map.1 he
  have:=hl x hx
  simp only [Bool.not_eq_true',Bool.and_eq_false_iff,beq_eq_false_iff_ne]
  by_cases q:x.v=v
  ·exact .inr fun k=>this ⟨q,k⟩
  ·exact .inl q
 rw [same A fun x hx=>ho x (List.mem_append.2 (.inl hx)),same B fun x hx=>ho x (List.mem_append.2 (.inr hx))]
theorem drop_non (h:∀ m∈L,¬ (m.v=v/\m.d=d)):sDrop (L.map Ms.s) v d=L.map Ms.s:=List.filter_eq_self.2 fun e he=>by
 obtain ⟨x,hx,rfl⟩:=List.mem_map.1 he
 have:=h x hx
 simp only [Bool.not_eq_true',Bool.and_eq_false_iff,beq_eq_false_iff_ne]
 by_cases q:x.v=v
 ·exact .inr fun k=>this ⟨q,k⟩
 ·exact .inl q
end
structure Up (L L':List Ms) (sn:Array Nat) (v:Int) (f:Stk->Stk):Prop where
 len:L'.length=L.length
 at_:∀ (i:Nat) (m m0:Ms),L'[i]? = some m->L[i]? = some m0->m.n=m0.n/\m.t=if sn.contains m0.b=true/\m0.v=v then f m0.t else m0.t
theorem mid_ne {A B:List Ms} {m m2:Ms} {i:Nat} (h:i≠A.length):(A ++ m2 :: B)[i]? = (A ++ m :: B)[i]? := by
 rcases Nat.lt_or_ge i A.length with k | k
 ·rw [List.getElem?_append_left k,List.getElem?_append_left k]
 ·rw [List.getElem?_append_right k,List.getElem?_append_right k]
  obtain ⟨j,hj⟩:∃ j,i - A.length=j + 1:=⟨i - A.length - 1,by omega⟩
  rw [hj]; rfl
theorem mid_eq {A B:List Ms} {m:Ms}:(A ++ m :: B)[A.length]? = some m:=by simp
theorem mid_in {A B:List Ms} {m m':Ms} {i:Nat} (h:i≠A.length) (k:(A ++ m :: B)[i]? = some m'):m'∈A ++ B:=by
 rcases Nat.lt_or_ge i A.length with c | c
 ·rw [List.getElem?_append_left c] at k
  exact List.mem_append.2 (.inl (List.mem_of_getElem? k))
 ·rw [List.getElem?_append_right c] at k
  obtain ⟨j,hj⟩:∃ j,i - A.length=j + 1:=⟨i - A.length - 1,by omega⟩
  rw [hj] at k
  exact List.mem_append.2 (.inr (List.mem_of_getElem? (by simpa using k)))
theorem nd_oth {A B:List Ms} {m:Ms} (nd:((A ++ m :: B).map Ms.b).Nodup):∀ x∈A ++ B,x.b≠m.b:=by
 intro x hx e
 rw [List.map_append,List.map_cons,List.nodup_append,List.nodup_cons] at nd
 rcases List.mem_append.1 hx with h | h
 ·exact nd.2.2 x.b (List.mem_map.2 ⟨x,h,rfl⟩) m.b List.mem_cons_self e
 ·exact nd.2.1.1 (e▸List.mem_map.2 ⟨x,h,rfl⟩)
section
variable {L L' A B:List Ms} {sn:Array Nat} {m m2:Ms} {v:Int} {f:Stk->Stk}
theorem Up.zero:Up L L #[] v f:=⟨rfl,fun i m m0 h h0=>by rw [h] at h0; cases h0; exact ⟨rfl,by simp⟩⟩
theorem left_at {e:MapEntry} (h:e∈(leftOf (mes (L.map Ms.n)) sn).toList):∃ A m B,L=A ++ m :: B/\e=m.n.e/\¬ sn.contains m.b=true:=by
 have k:e∈(mes (L.map Ms.n)).toList/\¬ sn.contains e.born=true:=by
  unfold leftOf at h
  rw [Array.toList_filter,List.mem_filter] at h
  exact ⟨h.1,by simpa using h.2⟩
 obtain ⟨x,hx,rfl⟩:=List.mem_map.1 (show e∈(L.map Ms.n).map Mn.e from k.1)
 obtain ⟨m,hm,rfl⟩:=List.mem_map.1 hx
 obtain ⟨A,B,e⟩:=List.append_of_mem hm
 exact ⟨A,m,B,e,rfl,k.2⟩
theorem left_no (h:(leftOf (mes (L.map Ms.n)) sn).size=0):∀ m∈L,sn.contains m.b=true:=fun m hm=>by
 rcases Bool.eq_false_or_eq_true (sn.contains m.b) with k | k
 ·exact k
 ·have e:m.n.e∈(leftOf (mes (L.map Ms.n)) sn).toList:=by
   unfold leftOf
   rw [Array.toList_filter,List.mem_filter]
   exact ⟨List.mem_map.2 ⟨m.n,List.mem_map.2 ⟨m,hm,rfl⟩,rfl⟩,by rw [k]; rfl⟩
  rw [Array.eq_empty_of_size_eq_zero h] at e
  simp at e
theorem ext_s {L L':List Ms} {g:Ms->(Int × Int) × Stk} (hl:L'.length=L.length) (h:∀ (i:Nat) (m m0:Ms),L'[i]? = some m->L[i]? = some m0->m.s=g m0):L'.map Ms.s=L.map g:=by
 refine List.ext_getElem? fun i => ?_
 rw [List.getElem?_map,List.getElem?_map]
 rcases Nat.lt_or_ge i L.length with k | k
 ·have a:=List.getElem?_eq_getElem (l:=L') (i:=i) (by omega)
  have b:=List.getElem?_eq_getElem (l:=L) (i:=i) k
  rw [a,b]
  exact congrArg some (h i _ _ a b)
 ·rw [List.getElem?_eq_none (by omega),List.getElem?_eq_none k]; rfl
theorem Up.done (U:Up L L' sn v f) (h:∀ m∈L,sn.contains m.b=true):L'.map Ms.s=sOn (L.map Ms.s) v f:=by
 unfold sOn
 rw [List.map_map]
 refine ext_s U.len fun i m m0 h1 h0 => ?_
 have q:=U.at_ i m m0 h1 h0
 have e:=q.1
 simp only [Ms.n,Mn.mk.injEq] at e
 have hc:=h m0 (List.mem_of_getElem? h0)
 simp only [Function.comp]
 by_cases k:m0.v=v
 ·rw [if_pos k]; rw [if_pos ⟨hc,k⟩] at q; simp only [Ms.s]; rw [q.2,e.1,e.2.1]
 ·rw [if_neg k]; rw [if_neg fun z=>k z.2] at q; simp only [Ms.s]; rw [q.2,e.1,e.2.1]
theorem Up.step (U:Up L (A ++ m :: B) sn v f) (nd:((A ++ m :: B).map Ms.b).Nodup) (hm:¬ sn.contains m.b=true) (h1:m2.n=m.n) (h2:m2.t=if m.v=v then f m.t else m.t):Up L (A ++ m2 :: B) (sn.push m.b) v f:=by
 refine ⟨by rw [<- U.len]; simp,fun i x x0 hx hx0 => ?_⟩
 by_cases e:i=A.length
 ·subst e
  rw [mid_eq] at hx
  cases hx
  have q:=U.at_ _ m x0 mid_eq hx0
  have e1:=q.1
  simp only [Ms.n,Mn.mk.injEq] at e1
  rw [if_neg fun z=>hm (by rw [e1.2.2.2]; exact z.1)] at q
  refine ⟨h1.trans q.1,?_⟩
  rw [h2,q.2,e1.1]
  by_cases k:x0.v=v
  ·rw [if_pos k,if_pos ⟨by rw [e1.2.2.2]; simp,k⟩]
  ·rw [if_neg k,if_neg fun z=>k z.2]
 ·rw [mid_ne (m:=m) e] at hx
  have q:=U.at_ i x x0 hx hx0
  have e1:=q.1
  simp only [Ms.n,Mn.mk.injEq] at e1
  have ne:=nd_oth nd x (mid_in e hx)
  refine ⟨q.1,q.2.trans ?_⟩
  have c:(sn.push m.b).contains x0.b=sn.contains x0.b:=by
   rw [<- e1.2.2.2]
   simp [ne]
  rw [c]
theorem Up.nn (U:Up L L' sn v f):L'.map Ms.n=L.map Ms.n:=by
 refine List.ext_getElem? fun i => ?_
 rw [List.getElem?_map,List.getElem?_map]
 have hl:=U.len
 rcases Nat.lt_or_ge i L.length with k | k
 ·have a:=List.getElem?_eq_getElem (l:=L') (i:=i) (by omega)
  have b:=List.getElem?_eq_getElem (l:=L) (i:=i) k
  rw [a,b]
  exact congrArg some (U.at_ i _ _ a b).1
 ·rw [List.getElem?_eq_none (by omega),List.getElem?_eq_none k]
def sm (h:Ms->Rat) (sn:Array Nat) (v:Int):List Ms->Rat
 | []=>0
 | m :: L=>(if sn.contains m.b=true/\m.v=v then h m else 0) + sm h sn v L
theorem sm_zero {h:Ms->Rat}:sm h #[] v L=0:=by
 induction L with
 | nil=>rfl
 | cons a L ih=>simp only [sm,ih]; simp; grind
theorem sm_app {h:Ms->Rat}:sm h sn v (A ++ B)=sm h sn v A + sm h sn v B:=by
 induction A with
 | nil=>simp only [List.nil_append,sm]; grind
 | cons a L ih=>simp only [List.cons_append,sm,ih]; grind
theorem sm_same {h:Ms->Rat} {b:Nat} (k:∀ x∈L,x.b≠b):sm h (sn.push b) v L=sm h sn v L:=by
 induction L with
 | nil=>rfl
 | cons a L ih =>
  have e:(sn.push b).contains a.b=sn.contains a.b:=by simp [k a List.mem_cons_self]
  simp only [sm,e,ih fun x hx=>k x (List.mem_cons_of_mem _ hx)]
theorem sm_push {h:Ms->Rat} (nd:((A ++ m :: B).map Ms.b).Nodup) (hm:¬ sn.contains m.b=true):sm h (sn.push m.b) v (A ++ m :: B)=sm h sn v (A ++ m :: B) + if m.v=v then h m else 0:=by
 have o:=nd_oth nd
 have e1:=sm_same (h:=h) (sn:=sn) (v:=v) (L:=A) (b:=m.b) fun x hx=>o x (List.mem_append.2 (.inl hx))
 have e2:=sm_same (h:=h) (sn:=sn) (v:=v) (L:=B) (b:=m.b) fun x hx=>o x (List.mem_append.2 (.inr hx))
 have c:(sn.push m.b).contains m.b=true:=by simp
 simp only [sm_app,sm,e1,e2,c,hm,true_and]
 split<;>grind
theorem sm_stakes (h:∀ m∈L,sn.contains m.b=true):sm (fun m=>m.r) sn v L=sStakes (L.map Ms.s) v/\sm (fun m=>m.o) sn v L=sOwes (L.map Ms.s) v:=by
 induction L with
 | nil=>exact ⟨rfl,rfl⟩
 | cons a L ih =>
  have k:=ih fun m hm=>h m (List.mem_cons_of_mem _ hm)
  have c:=h a List.mem_cons_self
  simp only [sm,List.map_cons,sStakes,sOwes,k.1,k.2,c,true_and]
  constructor<;>split<;>grind
end
theorem MapL.st {w w':World} {bm clock:Nat} {A B:List Ms} {m:Ms} (M:MapL w bm clock (A ++ m :: B)) (m2:Ms) (h1:m2.n=m.n) (X:Blk w' m.g m2.c 79) (C:Chg (· = m.g) w w') (P:Lp w w') (q1:RZv w' m2.wv m2.r) (q2:RZv w' m2.ov m2.o):MapL w' bm clock (A ++ m2 :: B):=by
 simp only [Ms.n,Mn.mk.injEq] at h1
 have d:=M.dist
 rw [List.pairwise_append,List.pairwise_cons] at d
 have ne:∀ x∈A ++ B,x.g≠m.g:=fun x hx=>by
  rcases List.mem_append.1 hx with h | h
  ·exact d.2.2 x h m List.mem_cons_self
  ·exact fun e=>d.2.1.1 x h e.symm
 have hb:bm≠m.g:=fun e=>by
  have k:=M.ob
  rw [e,(M.blk m (by simp)).blk] at k
  cases k
 have mem:∀ x∈A ++ m2 :: B,x=m2\/x∈A ++ B:=fun x hx=>by
  rcases List.mem_append.1 hx with h | h
  ·exact .inr (List.mem_append.2 (.inl h))
  ·rcases List.mem_cons.1 h with h | h
   ·exact .inl h
   ·exact .inr (List.mem_append.2 (.inr h))
 have inn:∀ x∈A ++ B,x∈A ++ m :: B:=fun x hx=>by
  rcases List.mem_append.1 hx with h | h
  ·exact List.mem_append.2 (.inl h)
  ·exact List.mem_append.2 (.inr (List.mem_cons_of_mem _ h))
 refine ⟨?_,?_,?_,?_,?_,?_,?_⟩
 ·rw [C.same bm (lt_of_block M.ob) hb,M.ob]
  simp [Ms.n,h1]
 ·have:=M.nd
  simpa [h1] using this
 ·intro x hx
  rcases mem x hx with rfl | h
  ·rw [h1.2.2.2]; exact M.lt m (by simp)
  ·exact M.lt x (inn x h)
 ·intro x hx
  rcases mem x hx with rfl | h
  ·rw [h1.2.2.1]; exact X
  ·exact (M.blk x (inn x h)).chg C (ne x h)
 ·intro x hx
  rcases mem x hx with rfl | h
  ·exact ⟨q1,q2⟩
  ·exact ⟨(M.q x (inn x h)).1.lp P,(M.q x (inn x h)).2.lp P⟩
 ·rw [List.pairwise_append,List.pairwise_cons]
  refine ⟨d.1,⟨fun x hx=>by rw [h1.2.2.1]; exact d.2.1.1 x hx,d.2.1.2⟩,fun x hx y hy => ?_⟩
  rcases List.mem_cons.1 hy with rfl | h
  ·rw [h1.2.2.1]; exact d.2.2 x hx m List.mem_cons_self
  ·exact d.2.2 x hx y (List.mem_cons_of_mem _ h)
 ·intro x hx
  rcases mem x hx with rfl | h
  ·rw [h1.1,h1.2.1]; exact M.rg m (by simp)
  ·exact M.rg x (inn x h)
structure ObW (w:World) (g:Nat) (o:Obj):Prop where
 ob:w.heap[g]? = some o
section
variable {w w':World} {g bm clock:Nat} {o:Obj} {F:Nat->Prop} {L:List Ms}
theorem ObW.lt (h:ObW w g o):g < w.heap.size:=lt_of_block h.ob
theorem ObW.off (h:ObW w g o) (C:Chg F w w') (hF:¬ F g):ObW w' g o:=⟨(C.same g h.lt hF).trans h.ob⟩
theorem ObW.keep (h:ObW w g o) (B:Below w.heap.size w w'):ObW w' g o:=h.off (F:=fun _=>False) (Chg.of B) id
theorem Lp.ob (I:ObW w g o) (ho:∀ cs t m,o≠.cells cs t m) (C:Chg (· = g) w w'):Lp w w':=by
 intro b q x hx h0 q' hq y hy
 have e:b≠g:=fun e=>by
  subst e
  have k:=I.ob
  simp only [World.cell?,k] at hy
  cases o with
  | cells c t m=>exact ho c t m rfl
  | _=>simp at hy
 rw [World.cell?_of_block (w:=w) (C.same b (cell_lt hy) e)]; exact hy
theorem MapL.hold (M:MapL w bm clock L):∀ x∈(mes (L.map Ms.n)).toList,x.born < clock:=fun x hx=>by
 obtain ⟨y,hy,rfl⟩:=List.mem_map.1 (show x∈(L.map Ms.n).map Mn.e from hx)
 obtain ⟨m,hm,rfl⟩:=List.mem_map.1 hy
 exact M.lt m hm
theorem MapL.nds (M:MapL w bm clock L):((mes (L.map Ms.n)).toList.map (·.born)).Nodup:=by
 have:=M.nd
 simpa [mes,List.map_map,Function.comp_def] using this
theorem MapL.ne {c:Nat} {cs:List Value} {t:TypeId} (M:MapL w bm clock L) (Y:Blk w c cs t) (ht:t≠79):bm≠c/\∀ m∈L,m.g≠c:=by
 constructor
 ·intro e
  have k:=M.ob
  rw [e,Y.blk] at k
  cases k
 ·intro m hm e
  have k:=(M.blk m hm).blk
  rw [e,Y.blk] at k
  cases k
  exact ht rfl
end
section
variable {L L' A B:List Ms} {sn:Array Nat} {m:Ms} {v:Int} {f:Stk->Stk}
theorem Up.old (U:Up L (A ++ m :: B) sn v f) (hm:¬ sn.contains m.b=true):∃ m0∈L,m.n=m0.n/\m.t=m0.t:=by
 have hl:=U.len
 have hk:A.length < L.length:=by rw [<- hl]; simp
 have b:=List.getElem?_eq_getElem (l:=L) (i:=A.length) hk
 have q:=U.at_ _ m _ mid_eq b
 have e:=q.1
 simp only [Ms.n,Mn.mk.injEq] at e
 rw [if_neg fun z=>hm (by rw [e.2.2.2]; exact z.1)] at q
 exact ⟨_,List.mem_of_getElem? b,q.1,q.2⟩
theorem Up.gs {P:Nat->Prop} (U:Up L L' sn v f) (h:∀ m∈L,P m.g):∀ m∈L',P m.g:=fun m hm=>by
 obtain ⟨i,hi⟩:=List.getElem?_of_mem hm
 have hl:=U.len
 have hk:i < L.length:=by
  have:=(List.getElem?_eq_some_iff.1 hi).1
  omega
 have b:=List.getElem?_eq_getElem (l:=L) (i:=i) hk
 have q:=(U.at_ i m _ hi b).1
 simp only [Ms.n,Mn.mk.injEq] at q
 rw [q.2.2.1]
 exact h _ (List.mem_of_getElem? b)
end
abbrev LG (L:List Ms):Nat->Prop:=fun q=>∃ m∈L,q=m.g
abbrev Gt (s:Stk):Prop:=(0<=s.1/\Ft s.1 640000)/\Ft s.2.1 640000/\(0<=s.2.2.1/\s.2.2.1 < 1000000)/\(0<=s.2.2.2/\s.2.2.2 < 1000000)
theorem fs_f {L:List Ms} {N:Nat} (h:Fs (L.map Ms.s) N):∀ m∈L,Ft m.r N/\Ft m.o N:=fun m hm=>by
 have:=h m.s (List.mem_map.2 ⟨m,hm,rfl⟩)
 exact ⟨this.1,this.2.1⟩
theorem fs_g {w:World} {bm clock:Nat} {L:List Ms} {N:Nat} (M:MapL w bm clock L) (h:Fs (L.map Ms.s) N) (k:N<=640000):∀ m∈L,Gt m.t:=fun m hm=>by
 have:=h m.s (List.mem_map.2 ⟨m,hm,rfl⟩)
 exact ⟨⟨RZ.nn (M.q m hm).1,ft_up this.1 k⟩,ft_up this.2.1 k,⟨this.2.2.1,this.2.2.2.1⟩,⟨this.2.2.2.2.1,this.2.2.2.2.2⟩⟩
theorem natK {w W:World} {g bm clock:Nat} {L:List Ms} {a:Option Addr} {n c:Nat} {x:Int} (N:NatA w a n c x) (X:Blk w g [.map (some bm)] 74) (M:MapL w bm clock L) (C:Chg (LK g bm L) w W):NatA W a n c x:=by
 obtain ⟨b,o,l,h1,h2,h3,h4⟩:=N.ex
 refine ⟨b,o,l,h1,h2,h3,⟨h4.1.loc,fun i hi => ?_⟩,h4.2⟩
 have k:=h4.1.cell i hi
 have hb:¬ LK g bm L b:=by
  have no:∀ {g':Nat} {cs:List Value} {t:TypeId},Blk w g' cs t->cs.all nu=true->b≠g':=fun Y hn e=>by
   subst e
   have hq:=Y.blk
   simp only [World.cell?,hq] at k
   have k2:=List.mem_of_getElem? (show _=some (Value.int .u64 (nth l i)) by simpa using k)
   have:=List.all_eq_true.1 hn _ k2
   simp [nu] at this
  rintro (e | e | ⟨m,hm,e⟩)
  ·exact no X rfl e
  ·have hq:=M.ob
   rw [<- e] at hq
   simp only [World.cell?,hq] at k
   simp at k
  ·exact no (M.blk m hm) rfl e
 exact (World.cell?_of_block (w:=w) (C.same b (cell_lt k) hb)).trans k
section
variable {w w':World} {bm clock:Nat} {L A B:List Ms} {m:Ms}
theorem MapL.lpm (M:MapL w bm clock L) (C:Chg (· = bm) w w'):Lp w w':=Lp.ob ⟨M.ob⟩ (fun _ _ _ h=>by cases h) C
theorem MapL.bne (M:MapL w bm clock L):∀ m∈L,m.g≠bm:=fun m hm e=>by
 have k:=(M.blk m hm).blk
 rw [e,M.ob] at k
 cases k
theorem MapL.re (M:MapL w bm clock L) (C:Chg (· = bm) w w') (ob:w'.heap[bm]? = some (.map (mes (L.map Ms.n)) clock)):MapL w' bm clock L :=
 ⟨ob,M.nd,M.lt,fun m hm=>(M.blk m hm).chg C (M.bne m hm),fun m hm=>⟨(M.q m hm).1.lp (M.lpm C),(M.q m hm).2.lp (M.lpm C)⟩,M.dist,M.rg⟩
theorem MapL.del (M:MapL w bm clock (A ++ m :: B)) (C:Chg (· = bm) w w') (ob:w'.heap[bm]? = some (.map (mes ((A ++ B).map Ms.n)) clock)):MapL w' bm clock (A ++ B):=by
 have inn:∀ x∈A ++ B,x∈A ++ m :: B:=fun x hx=>by
  rcases List.mem_append.1 hx with h | h
  ·exact List.mem_append.2 (.inl h)
  ·exact List.mem_append.2 (.inr (List.mem_cons_of_mem _ h))
 have sl:(A ++ B).Sublist (A ++ m :: B):=List.Sublist.append_left (List.sublist_cons_self m B) A
 exact ⟨ob,(sl.map Ms.b).nodup M.nd,fun x hx=>M.lt x (inn x hx),fun x hx=>(M.blk x (inn x hx)).chg C (M.bne x (inn x hx)),fun x hx=>⟨(M.q x (inn x hx)).1.lp (M.lpm C),(M.q x (inn x hx)).2.lp (M.lpm C)⟩,M.dist.sublist sl,fun x hx=>M.rg x (inn x hx)⟩
theorem era_mid:((A ++ m :: B).map Ms.n).eraseIdx A.length=(A ++ B).map Ms.n:=by
 rw [map_era]
 congr 1
 rw [List.eraseIdx_append_of_length_le (Nat.le_refl _),Nat.sub_self]
 rfl
end
theorem at_non {L:List Ms} {v d:Int} {f:Stk->Stk} (h:∀ m∈L,¬ (m.v=v/\m.d=d)):L.map Ms.s=sAt (L.map Ms.s) v d f:=by
 unfold sAt
 rw [List.map_map]
 exact List.map_congr_left fun x hx=>by
  simp only [Function.comp]
  rw [if_neg (h x hx)]
theorem n_gs {A B:List Ms} {P:Nat->Prop} (e:A.map Ms.n=B.map Ms.n) (h:∀ m∈B,P m.g):∀ m∈A,P m.g:=fun m hm=>by
 have:m.n∈B.map Ms.n:=e▸List.mem_map.2 ⟨m,hm,rfl⟩
 obtain ⟨y,hy,e2⟩:=List.mem_map.1 this
 have e3:y.g=m.g:=congrArg Mn.g e2
 rw [<- e3]
 exact h y hy
structure MapR (w:World) (clock:Nat) (L:List Ms):Prop where
 nd:(L.map Ms.b).Nodup
 lt:∀ m∈L,m.b < clock
 blk:∀ m∈L,Blk w m.g m.c 79
 q:∀ m∈L,RZv w m.wv m.r/\RZv w m.ov m.o
 dist:L.Pairwise fun a b=>a.g≠b.g
 rg:∀ m∈L,(0<=m.v/\m.v < 18446744073709551616)/\(0<=m.d/\m.d < 18446744073709551616)
section
variable {w w':World} {bm clock:Nat} {L:List Ms} {m:Ms} {F:Nat->Prop}
theorem MapL.rest (M:MapL w bm clock L):MapR w clock L:=⟨M.nd,M.lt,M.blk,M.q,M.dist,M.rg⟩
theorem MapR.off (M:MapR w clock L) (C:Chg F w w') (P:Lp w w') (h:∀ m∈L,¬ F m.g):MapR w' clock L :=
 ⟨M.nd,M.lt,fun m hm=>(M.blk m hm).chg C (h m hm),fun m hm=>⟨(M.q m hm).1.lp P,(M.q m hm).2.lp P⟩,M.dist,M.rg⟩
theorem MapR.snoc (R:MapR w clock L) (O:ObW w bm (.map (mes (L.map Ms.n ++ [m.n])) (clock + 1))) (hb:m.b=clock) (X:Blk w m.g m.c 79) (q1:RZv w m.wv m.r) (q2:RZv w m.ov m.o) (hg:∀ x∈L,x.g≠m.g) (hr:(0<=m.v/\m.v < 18446744073709551616)/\(0<=m.d/\m.d < 18446744073709551616)):MapL w bm (clock + 1) (L ++ [m]):=by
 have mem:∀ x∈L ++ [m],x∈L\/x=m:=fun x hx=>by
  rcases List.mem_append.1 hx with h | h
  ·exact .inl h
  ·exact .inr (List.mem_singleton.1 h)
 refine ⟨by rw [List.map_append]; exact O.ob,?_,fun x hx => ?_,fun x hx => ?_,fun x hx => ?_,?_,fun x hx => ?_⟩
 ·rw [List.map_append,List.nodup_append]
  refine ⟨R.nd,by simp,fun a ha b hb' e => ?_⟩
  obtain ⟨y,hy,rfl⟩:=List.mem_map.1 ha
  have e2:b=m.b:=by simpa using hb'
  have:=R.lt y hy
  omega
 ·rcases mem x hx with h | rfl
  ·have:=R.lt x h; omega
  ·omega
 ·rcases mem x hx with h | rfl
  ·exact R.blk x h
  ·exact X
 ·rcases mem x hx with h | rfl
  ·exact R.q x h
  ·exact ⟨q1,q2⟩
 ·refine List.pairwise_append.2 ⟨R.dist,List.pairwise_singleton _ _,fun a ha b hb' => ?_⟩
  rw [List.mem_singleton] at hb'
  subst hb'
  exact hg a ha
 ·rcases mem x hx with h | rfl
  ·exact R.rg x h
  ·exact hr
end
end Lg
end
end Go.Proofs.YtlbndpkdkdgggaaGreatDoor
