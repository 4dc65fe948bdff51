/- Several texts, joined: LgZ, LgQ, LgR. -/
import Derived.Test.YtlbndpkdkdgggaaGreatDoorJrr
import Derived.Test.YtlbndpkdkdgggaaGreatDoorJrp
import Derived.Test.YtlbndpkdkdgggaaGreatDoorJro
set_option maxRecDepth 100000
set_option maxHeartbeats 8000000
namespace Go.Proofs.YtlbndpkdkdgggaaGreatDoor
section
namespace Lg
open Go.RowKit Go.Lib Lim Pg Gl
structure E8 where
 v:Int
 d:Int
 wv:RV
 ov:RV
 r:Rat
 o:Rat
 p:Int
 k:Int
abbrev cel (e:E8):List Value:=[.int .u64 e.v,.int .u64 e.d,sA e.wv,sB e.wv,sA e.ov,sB e.ov,.int .i64 e.p,.int .i64 e.k]
abbrev z8:List Value:=[.int .u64 0,.int .u64 0,.slice none 0 0,.slice none 0 0,.slice none 0 0,.slice none 0 0,.int .i64 0,.int .i64 0]
def fl (E:Nat->E8):Nat->List Value
 | 0=>[]
 | n + 1=>fl E n ++ cel (E n)
def zrs:Nat->List Value
 | 0=>[]
 | n + 1=>z8 ++ zrs n
def sO (E:Nat->E8):Nat->St
 | 0=>[]
 | n + 1=>sO E n ++ [(((E n).v,(E n).d),((E n).r,(E n).o,(E n).p,(E n).k))]
def upE (E:Nat->E8) (i:Nat) (e:E8):Nat->E8:=fun j=>if j=i then e else E j
theorem fl_len (E:Nat->E8) (n:Nat):(fl E n).length=n * 8:=by
 induction n with
 | zero=>rfl
 | succ n ih=>simp only [fl,List.length_append,ih,List.length_cons,List.length_nil]; omega
theorem zrs_len (n:Nat):(zrs n).length=n * 8:=by
 induction n with
 | zero=>rfl
 | succ n ih=>simp only [zrs,List.length_append,ih,List.length_cons,List.length_nil]; omega
theorem fl_cong {E F:Nat->E8} {n:Nat} (h:∀ i,i < n->E i=F i):fl E n=fl F n:=by
 induction n with
 | zero=>rfl
 | succ n ih=>simp only [fl,ih (fun i hi=>h i (by omega)),h n (by omega)]
theorem fl_mid (E:Nat->E8) {n i:Nat} (h:i < n):∃ A B,fl E n=A ++ (cel (E i) ++ B)/\A.length=i * 8/\∀ e,fl (upE E i e) n=A ++ (cel e ++ B):=by
 induction n with
 | zero=>omega
 | succ n ih =>
  rcases Nat.lt_or_ge i n with h1 | h1
  ·obtain ⟨A,B,e1,e2,e3⟩:=ih h1
   refine ⟨A,B ++ cel (E n),by simp only [fl,e1,List.append_assoc],e2,fun e => ?_⟩
   simp only [fl,e3,List.append_assoc]
   rw [show upE E i e n=E n from if_neg (by omega)]
  ·obtain rfl:i=n:=by omega
   refine ⟨fl E i,[],by simp only [fl,List.append_nil],fl_len E i,fun e => ?_⟩
   simp only [fl,List.append_nil]
   rw [show upE E i e i=e from if_pos rfl,fl_cong (E:=upE E i e) (F:=E) (n:=i) fun j hj=>if_neg (by omega)]
theorem fl_get (E:Nat->E8) {n i:Nat} (h:i < n) (j:Nat) (hj:j < 8) (z:List Value):(fl E n ++ z)[i * 8 + j]? = (cel (E i))[j]? := by
 obtain ⟨A,B,e1,e2,_⟩:=fl_mid E h
 rw [e1,List.append_assoc,List.getElem?_append_right (by omega),e2,show i * 8 + j - i * 8=j by omega,List.append_assoc,List.getElem?_append_left (by simpa using hj)]
theorem fl_two (E:Nat->E8) {n i:Nat} (h:i < n) (j:Nat) (hj:j + 2<=8) (z:List Value):((fl E n ++ z).drop (i * 8 + j)).take 2=((cel (E i)).drop j).take 2:=by
 refine List.ext_getElem? fun q => ?_
 rw [List.getElem?_take,List.getElem?_take]
 split
 ·rw [List.getElem?_drop,List.getElem?_drop,Nat.add_assoc,fl_get E h _ (by omega)]
 ·rfl
theorem spl_mid (A C B vs:List Value) (j:Nat) (hj:j + vs.length<=C.length):spl (A ++ (C ++ B)) (A.length + j) vs=A ++ (spl C j vs ++ B):=by
 unfold spl
 rw [List.take_append,List.drop_append,List.take_of_length_le (by omega),List.drop_of_length_le (by omega),show A.length + j - A.length=j by omega,show A.length + j + vs.length - A.length=j + vs.length by omega,List.take_append_of_le_length (by omega),List.drop_append_of_le_length (by omega)]
 simp only [List.append_assoc,List.nil_append]
theorem fl_set (E:Nat->E8) {n i:Nat} (h:i < n) (j:Nat) (vs:List Value) (e:E8) (z:List Value) (hj:j + vs.length<=8) (he:spl (cel (E i)) j vs=cel e):spl (fl E n ++ z) (i * 8 + j) vs=fl (upE E i e) n ++ z:=by
 obtain ⟨A,B,e1,e2,e3⟩:=fl_mid E h
 rw [e3,e1,List.append_assoc,List.append_assoc,<- e2,spl_mid A (cel (E i)) (B ++ z) vs j (by simpa using hj),he]
 simp only [List.append_assoc]
theorem fl_room (E:Nat->E8) {n i:Nat} (h:i < n) (j:Nat) (vs z:List Value) (hj:j + vs.length<=8):Nat.ble (i * 8 + j + vs.length) (fl E n ++ z).length=true:=by
 rw [Nat.ble_eq,List.length_append,fl_len]; omega
theorem Lp.st {w w':World} {g:Nat} {cs cs':List Value} {t:TypeId} (X:Blk w g cs t) (Y:Blk w' g cs' t) (C:Chg (· = g) w w') (h:∀ (q:Nat) (x:Int),cs[q]? = some (.int .u64 x)->cs'[q]? = some (.int .u64 x)):Lp w w':=by
 intro b o x hx h0 o' ho y hy
 by_cases e:b=g
 ·subst e
  have hq:=X.blk
  have hq':=Y.blk
  simp only [World.cell?,hq] at hy
  simp only [World.cell?,hq']
  have:=h o' y (by simpa using hy)
  simpa using this
 ·rw [World.cell?_of_block (w:=w) (C.same b (cell_lt hy) e)]; exact hy
theorem spl_nu {cs vs:List Value} {o:Nat} (h1:((cs.drop o).take vs.length).all nu=true) (hl:o + vs.length<=cs.length):∀ (q:Nat) (x:Int),cs[q]? = some (.int .u64 x)->(spl cs o vs)[q]? = some (.int .u64 x):=by
 intro q x hx
 unfold spl
 have ht:(cs.take o).length=o:=by rw [List.length_take]; omega
 rcases Nat.lt_or_ge q o with k | k
 ·rw [List.append_assoc,List.getElem?_append_left (by omega),List.getElem?_take,if_pos k]; exact hx
 ·rcases Nat.lt_or_ge q (o + vs.length) with k2 | k2
  ·have hm:Value.int .u64 x∈(cs.drop o).take vs.length:=by
    refine List.mem_of_getElem? (i:=q - o) ?_
    rw [List.getElem?_take,if_pos (by omega),List.getElem?_drop,show o + (q - o)=q by omega]; exact hx
   have:=List.all_eq_true.1 h1 _ hm
   exact absurd this (by simp [nu])
  ·rw [List.getElem?_append_right (by rw [List.length_append,ht]; omega),List.length_append,ht,List.getElem?_drop,show o + vs.length + (q - (o + vs.length))=q by omega]; exact hx
theorem zrs_zero {m q:Nat} {x:Int} (h:(zrs m)[q]? = some (.int .u64 x)):x=0:=by
 induction m generalizing q with
 | zero=>simp [zrs] at h
 | succ m ih =>
  simp only [zrs] at h
  rcases Nat.lt_or_ge q 8 with k | k
  ·rw [List.getElem?_append_left (by simpa using k)] at h
   match q,k with
   | 0,_=>simpa using h.symm
   | 1,_=>simpa using h.symm
   | 2,_=>simp at h
   | 3,_=>simp at h
   | 4,_=>simp at h
   | 5,_=>simp at h
   | 6,_=>simp at h
   | 7,_=>simp at h
  ·rw [List.getElem?_append_right (by simpa using k)] at h
   exact ih h
end Lg
end
section
namespace Lg
open Go.RowKit Go.Lib Lim Pg Gl
structure Rb (w:World) (b:Nat) (ao:Option Addr) (n c z:Nat) (E:Nat->E8):Prop where
 hc:c=n + z
 nil:c=0->ao=none
 ptr:0 < c->ao=some ⟨b,0,none⟩
 blk:0 < c->Blk w b (fl E n ++ zrs z) 82
section
variable {w w':World} {b:Nat} {ao:Option Addr} {n c z:Nat} {E:Nat->E8}
theorem Rb.off {F:Nat->Prop} (Y:Rb w b ao n c z E) (C:Chg F w w') (h:0 < c->¬ F b):Rb w' b ao n c z E:=⟨Y.hc,Y.nil,Y.ptr,fun k=>(Y.blk k).chg C (h k)⟩
theorem Rb.keep (Y:Rb w b ao n c z E) (B:Below w.heap.size w w'):Rb w' b ao n c z E:=Y.off (F:=fun _=>False) (Chg.of B) (fun _ h=>h)
theorem Rb.drew (Y:Rb w b ao n c z E):Rb w.drew b ao n c z E:=Y.keep (Below.refl _ _).drew
theorem Rb.ne {g:Nat} {cs:List Value} {t:TypeId} (Y:Rb w b ao n c z E) (X:Blk w g cs t) (ht:t≠82) (k:0 < c):b≠g:=fun e=>by
 subst e
 have:=(Y.blk k).blk.symm.trans X.blk
 cases this
 exact ht rfl
theorem Rb.cg {g:Nat} {cs:List Value} {t:TypeId} (Y:Rb w b ao n c z E) (X:Blk w g cs t) (C:Chg (· = g) w w') (_hn:cs.all nu=true) (ht:t≠82):Rb w' b ao n c z E:=Y.off C fun k=>Y.ne X ht k
theorem Rb.c0 (Y:Rb w b ao n c z E) {i:Nat} (hi:i < n):0 < c:=by have:=Y.hc; omega
theorem Rb.p0 (Y:Rb w b ao n c z E) (h:0 < n):ao=some ⟨b,0,none⟩:=Y.ptr (Y.c0 h)
theorem Rb.st {i:Nat} (Y:Rb w b ao n c z E) (hi:i < n) (j:Nat) (vs:List Value) (e:E8) (hj:j + vs.length<=8) (he:spl (cel (E i)) j vs=cel e) (hn:(((cel (E i)).drop j).take vs.length).all nu=true) (Y':Blk w' b (fl (upE E i e) n ++ zrs z) 82) (C:Chg (· = b) w w'):Rb w' b ao n c z (upE E i e)/\Lp w w':=by
 have hB:=Y.blk (Y.c0 hi)
 have e1:=fl_set E hi j vs e (zrs z) hj he
 have P:Lp w w':=Lp.st hB Y' C (by
  rw [<- e1]
  refine spl_nu ?_ (by rw [List.length_append,fl_len]; omega)
  obtain ⟨A,B,f1,f2,_⟩:=fl_mid E hi
  rw [f1,List.append_assoc,List.append_assoc,<- f2,List.drop_append,List.drop_of_length_le (by omega),List.nil_append,show A.length + j - A.length=j by omega,List.drop_append_of_le_length (by simp; omega),List.take_append_of_le_length (by rw [List.length_drop]; simp; omega)]
  exact hn)
 exact ⟨⟨Y.hc,Y.nil,Y.ptr,fun _=>Y'⟩,P⟩
end
structure Ry (w:World) (b:Nat) (ao:Option Addr) (n c z:Nat) (E:Nat->E8):Prop where
 hc:c=n + z
 nil:c=0->ao=none
 ptr:0 < c->ao=some ⟨b,0,none⟩
 blk:0 < c->Blk w b (fl E n ++ zrs z) 82
 q:∀ i,i < n->RQv w (E i).wv (E i).r/\RQv w (E i).ov (E i).o
 rg:∀ i,i < n->(0<=(E i).v/\(E i).v < 18446744073709551616)/\(0<=(E i).d/\(E i).d < 18446744073709551616)
section
variable {w w':World} {b:Nat} {ao:Option Addr} {n c z:Nat} {E:Nat->E8}
theorem Ry.off {F:Nat->Prop} (Y:Ry w b ao n c z E) (C:Chg F w w') (P:Lp w w') (h:0 < c->¬ F b):Ry w' b ao n c z E :=
 ⟨Y.hc,Y.nil,Y.ptr,fun k=>(Y.blk k).chg C (h k),fun i hi=>⟨(Y.q i hi).1.lp P,(Y.q i hi).2.lp P⟩,Y.rg⟩
theorem Ry.keep (Y:Ry w b ao n c z E) (B:Below w.heap.size w w'):Ry w' b ao n c z E:=Y.off (F:=fun _=>False) (Chg.of B) (Lp.of B) (fun _ h=>h)
theorem Ry.drew (Y:Ry w b ao n c z E):Ry w.drew b ao n c z E:=Y.keep (Below.refl _ _).drew
theorem Ry.cg {g:Nat} {cs:List Value} {t:TypeId} (Y:Ry w b ao n c z E) (X:Blk w g cs t) (C:Chg (· = g) w w') (hn:cs.all nu=true) (ht:t≠82):Ry w' b ao n c z E :=
 Y.off C (Lp.cg X C hn) fun k e=>by
  have e':b=g:=e
  subst e'
  have:=(Y.blk k).blk.symm.trans X.blk
  cases this
  exact ht rfl
theorem Ry.c0 (Y:Ry w b ao n c z E) {i:Nat} (hi:i < n):0 < c:=by have:=Y.hc; omega
theorem Ry.p0 (Y:Ry w b ao n c z E) (h:0 < n):ao=some ⟨b,0,none⟩:=Y.ptr (Y.c0 h)
theorem Ry.ne {g:Nat} {cs:List Value} {t:TypeId} (Y:Ry w b ao n c z E) (X:Blk w g cs t) (ht:t≠82) (k:0 < c):b≠g:=fun e=>by
 subst e
 have:=(Y.blk k).blk.symm.trans X.blk
 cases this
 exact ht rfl
theorem ldE1 {ρ:Operand->Value} {o:Oper} {i:Nat} (Y:Ry w b ao n c z E) (hi:i < n) (j:Nat) (v:Value) (hj:j < 8) (hv:(cel (E i))[j]? = some v) (ho:∃ T p,o.op=.load T p/\ρ p=.pointer (some ⟨b,i * 8 + j,none⟩)/\∀ w,(isAgg T).run Tryz.prog w=.ok false w:=by exact ⟨_,_,rfl,by kernel_rfl,fun _=>by kernel_rfl⟩):(execOp ρ o).run Tryz.prog w=.ok (.value v) w :=
 run_ld1 (Y.blk (Y.c0 hi)) (by rw [fl_get E hi j hj]; exact hv) ho
theorem ldE2 {ρ:Operand->Value} {o:Oper} {i:Nat} (Y:Ry w b ao n c z E) (hi:i < n) (j:Nat) (vs:List Value) (hj:j + 2<=8) (hv:((cel (E i)).drop j).take 2=vs) (hl:vs.length=2) (ho:∃ T p,o.op=.load T p/\ρ p=.pointer (some ⟨b,i * 8 + j,none⟩)/\rowT Tryz.prog T vs.length=true:=by exact ⟨_,_,rfl,by kernel_rfl,by kernel_rfl⟩):(execOp ρ o).run Tryz.prog w=.ok (.value (.agg vs.toArray)) w :=
 run_ldr (Y.blk (Y.c0 hi)) (by rw [hl,fl_two E hi j hj]; exact hv) ho
theorem Ry.st {i:Nat} (Y:Ry w b ao n c z E) (hi:i < n) (j:Nat) (vs:List Value) (e:E8) (hj:j + vs.length<=8) (he:spl (cel (E i)) j vs=cel e) (hv:e.v=(E i).v) (hd:e.d=(E i).d) (hn:(((cel (E i)).drop j).take vs.length).all nu=true) (q1:RQv w e.wv e.r) (q2:RQv w e.ov e.o) (Y':Blk w' b (fl (upE E i e) n ++ zrs z) 82) (C:Chg (· = b) w w'):Ry w' b ao n c z (upE E i e)/\Lp w w':=by
 have hB:=Y.blk (Y.c0 hi)
 have e1:=fl_set E hi j vs e (zrs z) hj he
 have P:Lp w w':=Lp.st hB Y' C (by
  rw [<- e1]
  refine spl_nu ?_ (by rw [List.length_append,fl_len]; omega)
  obtain ⟨A,B,f1,f2,_⟩:=fl_mid E hi
  rw [f1,List.append_assoc,List.append_assoc,<- f2,List.drop_append,List.drop_of_length_le (by omega),List.nil_append,show A.length + j - A.length=j by omega,List.drop_append_of_le_length (by simp; omega),List.take_append_of_le_length (by rw [List.length_drop]; simp; omega)]
  exact hn)
 refine ⟨⟨Y.hc,Y.nil,Y.ptr,fun _=>Y',fun k hk => ?_,fun k hk => ?_⟩,P⟩
 ·by_cases h:k=i
  ·subst h; rw [show upE E k e k=e from if_pos rfl]; exact ⟨q1.lp P,q2.lp P⟩
  ·rw [show upE E i e k=E k from if_neg h]; exact ⟨(Y.q k hk).1.lp P,(Y.q k hk).2.lp P⟩
 ·by_cases h:k=i
  ·subst h; rw [show upE E k e k=e from if_pos rfl,hv,hd]; exact Y.rg k hk
  ·rw [show upE E i e k=E k from if_neg h]; exact Y.rg k hk
end
theorem Rb.ry {w:World} {b:Nat} {ao:Option Addr} {n c z:Nat} {E:Nat->E8} (Y:Rb w b ao n c z E) (hq:∀ i,i < n->RQv w (E i).wv (E i).r/\RQv w (E i).ov (E i).o) (hr:∀ i,i < n->(0<=(E i).v/\(E i).v < 18446744073709551616)/\(0<=(E i).d/\(E i).d < 18446744073709551616)):Ry w b ao n c z E:=⟨Y.hc,Y.nil,Y.ptr,Y.blk,hq,hr⟩
theorem Ry.rb {w:World} {b:Nat} {ao:Option Addr} {n c z:Nat} {E:Nat->E8} (Y:Ry w b ao n c z E):Rb w b ao n c z E:=⟨Y.hc,Y.nil,Y.ptr,Y.blk⟩
abbrev stk (e:E8):Stk:=(e.r,e.o,e.p,e.k)
theorem sO_on {E F:Nat->E8} {n:Nat} {v:Int} {f:Stk->Stk} (h:∀ j,j < n->(F j).v=(E j).v/\(F j).d=(E j).d/\stk (F j)=if (E j).v=v then f (stk (E j)) else stk (E j)):sO F n=sOn (sO E n) v f:=by
 induction n with
 | zero=>rfl
 | succ n ih =>
  have h1:=h n (by omega)
  have h2:=ih fun j hj=>h j (by omega)
  simp only [sO,h2,sOn,List.map_append,List.map_cons,List.map_nil]
  congr 1
  rw [h1.1,h1.2.1,show ((F n).r,(F n).o,(F n).p,(F n).k)=stk (F n) from rfl,h1.2.2]
  split<;>rfl
theorem sO_at {E F:Nat->E8} {n i:Nat} {v d:Int} {f:Stk->Stk} (hi:i < n) (hv:(E i).v=v/\(E i).d=d) (hu:∀ j,j < n->j≠i->¬ ((E j).v=v/\(E j).d=d)) (h:∀ j,j < n->(F j).v=(E j).v/\(F j).d=(E j).d/\stk (F j)=if j=i then f (stk (E j)) else stk (E j)):sO F n=sAt (sO E n) v d f:=by
 have key:∀ m,m<=n->sO F m=sAt (sO E m) v d f:=by
  intro m hm
  induction m with
  | zero=>rfl
  | succ m ih =>
   have h1:=h m (by omega)
   have h2:=ih (by omega)
   simp only [sO,h2,sAt,List.map_append,List.map_cons,List.map_nil]
   congr 1
   rw [h1.1,h1.2.1,show ((F m).r,(F m).o,(F m).p,(F m).k)=stk (F m) from rfl,h1.2.2]
   by_cases e:m=i
   ·subst e; simp [hv]
   ·rw [if_neg e,if_neg (hu m (by omega) e)]
 exact key n (Nat.le_refl _)
theorem sO_mem {E:Nat->E8} {n:Nat} {e:(Int × Int) × Stk}:e∈sO E n<->∃ i,i < n/\e=(((E i).v,(E i).d),stk (E i)):=by
 induction n with
 | zero=>simp [sO]
 | succ n ih =>
  simp only [sO,List.mem_append,List.mem_singleton,ih]
  constructor
  ·rintro (⟨i,h,k⟩ | k)
   ·exact ⟨i,by omega,k⟩
   ·exact ⟨n,by omega,k⟩
  ·rintro ⟨i,h,k⟩
   rcases Nat.lt_or_ge i n with h1 | h1
   ·exact .inl ⟨i,h1,k⟩
   ·obtain rfl:i=n:=by omega
    exact .inr k
theorem sO_len {E:Nat->E8} {n:Nat}:(sO E n).length=n:=by
 induction n with
 | zero=>rfl
 | succ n ih=>simp [sO,ih]
theorem sO_no {E:Nat->E8} {n:Nat} {v d:Int} (h:∀ j,j < n->¬ ((E j).v=v/\(E j).d=d)):sGet (sO E n) v d=none:=by
 unfold sGet
 rw [List.find?_eq_none.2]
 ·rfl
 ·intro e he
  obtain ⟨i,hi,rfl⟩:=sO_mem.1 he
  simpa using h i hi
theorem sO_yes {E:Nat->E8} {n i:Nat} {v d:Int} (hi:i < n) (hv:(E i).v=v/\(E i).d=d) (h:∀ j,j < i->¬ ((E j).v=v/\(E j).d=d)):sGet (sO E n) v d=some (stk (E i)):=by
 unfold sGet
 induction n with
 | zero=>omega
 | succ n ih =>
  simp only [sO,List.find?_append]
  rcases Nat.lt_or_ge i n with h1 | h1
  ·have:=ih h1
   cases hf:(sO E n).find? (fun e=>e.1.1 == v && e.1.2 == d) with
   | none=>rw [hf] at this; simp at this
   | some e=>rw [hf] at this; simpa using this
  ·obtain rfl:i=n:=by omega
   have:=sO_no h
   unfold sGet at this
   cases hf:(sO E i).find? (fun e=>e.1.1 == v && e.1.2 == d) with
   | none=>simp [hv]
   | some e=>rw [hf] at this; simp at this
end Lg
end
section
namespace Lg
open Go.RowKit Go.Lib Lim Pg Gl
set_option linter.unusedVariables false
theorem nothing_any {w:World}:Calls Tryz.prog 60 #[] w fun e w'=>∃ a k d_ a' k' d',e=.returned (.agg #[.slice a k d_,.slice a' k' d'])/\RQ w' a k d_ a' k' d' 0/\Below w.heap.size w w':=by
 have BB:=Below.refl w.heap.size w
 refine gc_enter (n:=2) Tryz.func60 rfl ?_
 refine gc_seq (gc_reg (ta 0 [zS,zS] 40 (pg) ?_))
 intro v1 g2 Xg2 hg2 B
 replace BB:=joinB BB B
 refine gl_nil (ge_then (gc_seq (gc_reg (tc 1 99 #[zS] (tpOfNat (B:=64) (natO_nil _).a (by omega) (by omega) (by omega)) ?_))))
 rintro _ v4 ⟨aq3,kq3,dq3,bq3,lq3,eq3,rfl,Qq3,B⟩
 refine ⟨_,rfl,?_⟩
 replace BB:=joinB BB B
 replace Xg2:=Xg2.keep B
 refine ts Xg2 0 (.agg #[.slice aq3 kq3 dq3,.slice bq3 lq3 eq3]) [.slice aq3 kq3 dq3,.slice bq3 lq3 eq3] [.slice aq3 kq3 dq3,.slice bq3 lq3 eq3] ?_
 intro v5 Y C
 replace BB:=belowC BB C (by omega)
 replace Qq3:=Qq3.cg Xg2 C (by rfl)
 have Xg2:=Y
 refine gl_nil (ge_then (gc_ret (ge_ret (.agg #[.slice aq3 kq3 dq3,.slice bq3 lq3 eq3]) (rsc 0 (T:=40) (by kernel_rfl) (by kernel_rfl) (lr Xg2 0)) ?_)))
 exact ⟨aq3,kq3,dq3,bq3,lq3,eq3,rfl,Qq3.is (by decide +kernel),BB⟩
theorem f2 {n d:Int} (hn:0<=n/\n < 18446744073709551616) (hd:0<=d/\d < 18446744073709551616) (hz:d≠0):Ft (((n:Int):Rat) / ((d:Int):Rat)) 64:=ft_of (by omega) hn.1 rfl (by omega) (by omega)
theorem by_z {w:World} {a0 b0:Option Addr} {n0 c0 m0 d0:Nat} {r:Rat} {n d:Int} (Q:RQ w a0 n0 c0 b0 m0 d0 r) (f:Ft r (64 * 200000)) (hn:0<=n/\n < 18446744073709551616) (hd:0<=d/\d < 18446744073709551616) (hz:d=0):Calls Tryz.prog 54 #[.agg #[.slice a0 n0 c0,.slice b0 m0 d0],.int .u64 n,.int .u64 d] w fun e w'=>∃ a k d_ a' k' d',e=.returned (.agg #[.slice a k d_,.slice a' k' d'])/\RQ w' a k d_ a' k' d' (r * qv n d)/\Below w.heap.size w w':=by
 have BB:=Below.refl w.heap.size w
 refine gc_enter (n:=23) Tryz.func54 rfl ?_
 refine gc_seq (gc_reg (ta 3 [.slice a0 n0 c0,.slice b0 m0 d0] 40 (pg) ?_))
 intro v1 g2 Xg2 hg2 B
 replace Q:=Q.keep B
 replace BB:=joinB BB B
 have lXg2:=Xg2.lt
 refine ta 6 [zS,zS] 40 (pg) ?_
 intro v3 g4 Xg4 hg4 B
 replace Q:=Q.keep B
 replace BB:=joinB BB B
 replace Xg2:=Xg2.keep B
 refine gl_nil (ge_then (gc_seq (gc_reg (t 10 (iU n) (tc 11 66 #[iU n] (rOf (x:=n) (hn).1 (hn).2) ?_)))))
 rintro _ v6 ⟨an5,kn5,dn5,rfl,Nn5,ln5,B⟩
 refine ⟨_,rfl,?_⟩
 replace Q:=Q.keep B
 replace BB:=joinB BB B
 replace Xg2:=Xg2.keep B
 replace Xg4:=Xg4.keep B
 refine t 12 (iU d) (tc 13 66 #[iU d] (rOf (x:=d) (hd).1 (hd).2) ?_)
 rintro _ v8 ⟨an7,kn7,dn7,rfl,Nn7,ln7,B⟩
 refine ⟨_,rfl,?_⟩
 replace Q:=Q.keep B
 replace BB:=joinB BB B
 replace Xg2:=Xg2.keep B
 replace Xg4:=Xg4.keep B
 replace Nn5:=Nn5.keep B
 refine tc 14 64 #[.slice an5 kn5 dn5,.slice an7 kn7 dn7] (tOfZ Nn7.a (by omega) hz) ?_
 rintro _ v9 ⟨rfl,B⟩
 refine ⟨_,rfl,?_⟩
 replace Q:=Q.keep B
 replace BB:=joinB BB B
 replace Xg2:=Xg2.keep B
 replace Xg4:=Xg4.keep B
 replace Nn5:=Nn5.keep B
 replace Nn7:=Nn7.keep B
 refine t 9 (.tuple #[.agg #[zS,zS],iI 30]) (t 15 (.agg #[zS,zS]) (t 16 (iI 30) ?_))
 have lXg2:=Xg2.lt
 have lXg4:=Xg4.lt
 refine ta 7 [zS,zS] 40 (pg) ?_
 intro v10 g11 Xg11 hg11 B
 replace Q:=Q.keep B
 replace BB:=joinB BB B
 replace Xg2:=Xg2.keep B
 replace Xg4:=Xg4.keep B
 replace Nn5:=Nn5.keep B
 replace Nn7:=Nn7.keep B
 refine ts Xg11 0 (.agg #[zS,zS]) [zS,zS] [zS,zS] ?_
 intro v12 Y C
 replace Q:=Q.cg Xg11 C (by rfl)
 replace BB:=belowC BB C (by omega)
 replace Xg2:=Xg2.chg C (show g2≠g11 by omega)
 replace Xg4:=Xg4.chg C (show g4≠g11 by omega)
 replace Nn5:=NatO.cg Nn5 Xg11 C (by rfl)
 replace Nn7:=NatO.cg Nn7 Xg11 C (by rfl)
 have Xg11:=Y
 refine t 8 (iI 30) (gl_nil (ge_then (gc_fr [(3,pg g2),(6,pg g4),(7,pg g11),(8,iI 30)] (gc_seq (gc_seq (gc_reg (t 17 (iI 30) (t 18 (bT) (gl_nil (ge_then (gc_yes (gc_seq (gc_reg (tc 19 60 #[] (nothing_any) ?_))))))))))))))
 rintro _ v14 ⟨aq13,kq13,dq13,bq13,lq13,eq13,rfl,Qq13,B⟩
 refine ⟨_,rfl,?_⟩
 replace Q:=Q.keep B
 replace BB:=joinB BB B
 replace Xg2:=Xg2.keep B
 replace Xg4:=Xg4.keep B
 replace Nn5:=Nn5.keep B
 replace Nn7:=Nn7.keep B
 replace Xg11:=Xg11.keep B
 refine ts Xg4 0 (.agg #[.slice aq13 kq13 dq13,.slice bq13 lq13 eq13]) [.slice aq13 kq13 dq13,.slice bq13 lq13 eq13] [.slice aq13 kq13 dq13,.slice bq13 lq13 eq13] ?_
 intro v15 Y C
 replace Q:=Q.cg Xg4 C (by rfl)
 replace BB:=belowC BB C (by omega)
 replace Xg2:=Xg2.chg C (show g2≠g4 by omega)
 replace Nn5:=NatO.cg Nn5 Xg4 C (by rfl)
 replace Nn7:=NatO.cg Nn7 Xg4 C (by rfl)
 replace Xg11:=Xg11.chg C (show g11≠g4 by omega)
 replace Qq13:=Qq13.cg Xg4 C (by rfl)
 have Xg4:=Y
 refine gl_nil (ge_then (gc_ret (ge_tr (ge_ret (.agg #[.slice aq13 kq13 dq13,.slice bq13 lq13 eq13]) (rsc 6 (T:=40) (by kernel_rfl) (by kernel_rfl) (lr Xg4 0)) ?_))))
 exact ⟨aq13,kq13,dq13,bq13,lq13,eq13,rfl,Qq13.is (by unfold qv; rw [if_pos hz]; grind),BB⟩
theorem by_n {w:World} {a0 b0:Option Addr} {n0 c0 m0 d0:Nat} {r:Rat} {n d:Int} (Q:RQ w a0 n0 c0 b0 m0 d0 r) (f:Ft r (64 * 200000)) (hn:0<=n/\n < 18446744073709551616) (hd:0<=d/\d < 18446744073709551616) (hz:d≠0):Calls Tryz.prog 54 #[.agg #[.slice a0 n0 c0,.slice b0 m0 d0],.int .u64 n,.int .u64 d] w fun e w'=>∃ a k d_ a' k' d',e=.returned (.agg #[.slice a k d_,.slice a' k' d'])/\RQ w' a k d_ a' k' d' (r * qv n d)/\Below w.heap.size w w':=by
 have BB:=Below.refl w.heap.size w
 refine gc_enter (n:=23) Tryz.func54 rfl ?_
 refine gc_seq (gc_reg (ta 3 [.slice a0 n0 c0,.slice b0 m0 d0] 40 (pg) ?_))
 intro v1 g2 Xg2 hg2 B
 replace Q:=Q.keep B
 replace BB:=joinB BB B
 have lXg2:=Xg2.lt
 refine ta 6 [zS,zS] 40 (pg) ?_
 intro v3 g4 Xg4 hg4 B
 replace Q:=Q.keep B
 replace BB:=joinB BB B
 replace Xg2:=Xg2.keep B
 refine gl_nil (ge_then (gc_seq (gc_reg (t 10 (iU n) (tc 11 66 #[iU n] (rOf (x:=n) (hn).1 (hn).2) ?_)))))
 rintro _ v6 ⟨an5,kn5,dn5,rfl,Nn5,ln5,B⟩
 refine ⟨_,rfl,?_⟩
 replace Q:=Q.keep B
 replace BB:=joinB BB B
 replace Xg2:=Xg2.keep B
 replace Xg4:=Xg4.keep B
 refine t 12 (iU d) (tc 13 66 #[iU d] (rOf (x:=d) (hd).1 (hd).2) ?_)
 rintro _ v8 ⟨an7,kn7,dn7,rfl,Nn7,ln7,B⟩
 refine ⟨_,rfl,?_⟩
 replace Q:=Q.keep B
 replace BB:=joinB BB B
 replace Xg2:=Xg2.keep B
 replace Xg4:=Xg4.keep B
 replace Nn5:=Nn5.keep B
 refine tc 14 64 #[.slice an5 kn5 dn5,.slice an7 kn7 dn7] (tpOf (B:=200000) Nn5.a Nn7.a (by omega) (by omega) (by omega) (hz)) ?_
 rintro _ v10 ⟨aq9,kq9,dq9,bq9,lq9,eq9,rfl,Qq9,B⟩
 refine ⟨_,rfl,?_⟩
 replace Q:=Q.keep B
 replace BB:=joinB BB B
 replace Xg2:=Xg2.keep B
 replace Xg4:=Xg4.keep B
 replace Nn5:=Nn5.keep B
 replace Nn7:=Nn7.keep B
 refine t 9 (.tuple #[.agg #[.slice aq9 kq9 dq9,.slice bq9 lq9 eq9],iI 0]) (t 15 (.agg #[.slice aq9 kq9 dq9,.slice bq9 lq9 eq9]) (t 16 (iI 0) ?_))
 have lXg2:=Xg2.lt
 have lXg4:=Xg4.lt
 refine ta 7 [zS,zS] 40 (pg) ?_
 intro v11 g12 Xg12 hg12 B
 replace Q:=Q.keep B
 replace BB:=joinB BB B
 replace Xg2:=Xg2.keep B
 replace Xg4:=Xg4.keep B
 replace Nn5:=Nn5.keep B
 replace Nn7:=Nn7.keep B
 replace Qq9:=Qq9.keep B
 refine ts Xg12 0 (.agg #[.slice aq9 kq9 dq9,.slice bq9 lq9 eq9]) [.slice aq9 kq9 dq9,.slice bq9 lq9 eq9] [.slice aq9 kq9 dq9,.slice bq9 lq9 eq9] ?_
 intro v13 Y C
 replace Q:=Q.cg Xg12 C (by rfl)
 replace BB:=belowC BB C (by omega)
 replace Xg2:=Xg2.chg C (show g2≠g12 by omega)
 replace Xg4:=Xg4.chg C (show g4≠g12 by omega)
 replace Nn5:=NatO.cg Nn5 Xg12 C (by rfl)
 replace Nn7:=NatO.cg Nn7 Xg12 C (by rfl)
 replace Qq9:=Qq9.cg Xg12 C (by rfl)
 have Xg12:=Y
 refine t 8 (iI 0) (gl_nil (ge_then (gc_fr [(3,pg g2),(6,pg g4),(7,pg g12),(8,iI 0)] (gc_seq (gc_seq (gc_reg (t 17 (iI 0) (t 18 (bF) (gl_nil (ge_then (gc_no (gc_skip (ge_then (gc_seq (gc_reg (tlr 20 [.slice a0 n0 c0,.slice b0 m0 d0] Xg2 0 (tlr 21 [.slice aq9 kq9 dq9,.slice bq9 lq9 eq9] Xg12 0 (tc 22 55 #[.agg #[.slice a0 n0 c0,.slice b0 m0 d0],.agg #[.slice aq9 kq9 dq9,.slice bq9 lq9 eq9]] (tpMul (B:=200000) (Q.v f) (Qq9.v (ft_up (f2 hn hd hz) (by decide))) (by omega)) ?_))))))))))))))))))
 rintro _ v15 ⟨aq14,kq14,dq14,bq14,lq14,eq14,rfl,Qq14,B⟩
 refine ⟨_,rfl,?_⟩
 replace Q:=Q.keep B
 replace BB:=joinB BB B
 replace Xg2:=Xg2.keep B
 replace Xg4:=Xg4.keep B
 replace Nn5:=Nn5.keep B
 replace Nn7:=Nn7.keep B
 replace Qq9:=Qq9.keep B
 replace Xg12:=Xg12.keep B
 refine ts Xg4 0 (.agg #[.slice aq14 kq14 dq14,.slice bq14 lq14 eq14]) [.slice aq14 kq14 dq14,.slice bq14 lq14 eq14] [.slice aq14 kq14 dq14,.slice bq14 lq14 eq14] ?_
 intro v16 Y C
 replace Q:=Q.cg Xg4 C (by rfl)
 replace BB:=belowC BB C (by omega)
 replace Xg2:=Xg2.chg C (show g2≠g4 by omega)
 replace Nn5:=NatO.cg Nn5 Xg4 C (by rfl)
 replace Nn7:=NatO.cg Nn7 Xg4 C (by rfl)
 replace Qq9:=Qq9.cg Xg4 C (by rfl)
 replace Xg12:=Xg12.chg C (show g12≠g4 by omega)
 replace Qq14:=Qq14.cg Xg4 C (by rfl)
 have Xg4:=Y
 refine gl_nil (ge_then (gc_ret (ge_ret (.agg #[.slice aq14 kq14 dq14,.slice bq14 lq14 eq14]) (rsc 6 (T:=40) (by kernel_rfl) (by kernel_rfl) (lr Xg4 0)) ?_)))
 exact ⟨aq14,kq14,dq14,bq14,lq14,eq14,rfl,Qq14.is (by unfold qv; rw [if_neg hz]),BB⟩
theorem by_any {w:World} {a0 b0:Option Addr} {n0 c0 m0 d0:Nat} {r:Rat} {n d:Int} (Q:RQ w a0 n0 c0 b0 m0 d0 r) (f:Ft r (64 * 200000)) (hn:0<=n/\n < 18446744073709551616) (hd:0<=d/\d < 18446744073709551616):Calls Tryz.prog 54 #[.agg #[.slice a0 n0 c0,.slice b0 m0 d0],.int .u64 n,.int .u64 d] w fun e w'=>∃ a k d_ a' k' d',e=.returned (.agg #[.slice a k d_,.slice a' k' d'])/\RQ w' a k d_ a' k' d' (r * qv n d)/\Below w.heap.size w w':=by
 by_cases hz:d=0
 ·exact by_z Q f hn hd hz
 ·exact by_n Q f hn hd hz
theorem at_no {w:World} {g b:Nat} {ao:Option Addr} {n c zz:Nat} {E:Nat->E8} {v d:Int} (hv:0<=v/\v < 18446744073709551616) (hd:0<=d/\d < 18446744073709551616) (X:Blk w g [.slice ao n c] 30) (YR:Ry w b ao n c zz E) (hn:n<=100) (hno:∀ j,j < n->¬ ((E j).v=v/\(E j).d=d)):Calls Tryz.prog 59 #[pg g,.int .u64 v,.int .u64 d] w fun e w'=>e=.returned (.int .i64 (-1))/\Below w.heap.size w w':=by
 have BB:=Below.refl w.heap.size w
 refine gc_enter (n:=40) Tryz.func59 rfl ?_
 refine gc_seq (gc_reg (t 6 (iI 0) (gl_nil (ge_then (gc_seq (gc_seq (gc_reg (t 7 (iI 0) (gl_nil (ge_then (gc_block (gc_loop (fun i=>n - i) (fun (i:Nat)=>[(0,pg g),(1,iU v),(2,iU d),(6,iI 0),(7,iI (i:Int))]) (fun i w'=>i<=n/\True/\Blk w' g [.slice ao n c] 30/\Ry w' b ao n c zz E/\Below w.heap.size w w') 0 ⟨Nat.zero_le _,trivial,X,YR,BB⟩ (by kernel_rfl) ?_))))))))))))
 clear X YR BB
 rintro i v1 ⟨hi,hx_i,X,YR,BB⟩
 refine gc_seq (gc_seq (gc_reg (t 8 (iI (i:Int)) (t 9 (pg g) (t 10 (pg g) (t 11 (pg g) (tl 12 (.slice ao n c) X 0 (t 13 (iI ((n:Nat):Int)) ?_))))))))
 by_cases c2:(i:Int) < ((n:Nat):Int)
 ·have hk_i:i < n:=by omega
  refine tq 14 (.bool (decide ((i:Int) < ((n:Nat):Int)))) (bT) (congrArg Value.bool (decide_eq_true c2)) (gl_nil (ge_then (gc_yes (gc_skip (ge_then (gc_seq (gc_block (gc_seq (gc_reg (t 17 (pg g) (t 18 (pg g) (t 19 (pg g) (tl 20 (.slice ao n c) X 0 (t 21 (iI (i:Int)) (tr 22 (pq b (i * 8)) (congr_v (by rw [Nat.zero_add]) (run_ixa 8 b 0 n c i hk_i YR.p0)) (t 23 (pq b (i * 8)) (tr 24 (iU (E i).v) (ldE1 YR hk_i 0 _ (by decide) rfl) (t 25 (iU v) ?_))))))))))))))))))
  by_cases c3:((E i).v:Int)=v
  ·refine tq 26 (.bool (((E i).v:Int) == v)) (bT) (congrArg Value.bool (beq_iff_eq.2 c3)) (t 27 (bT) (t 28 (pg g) (t 29 (pg g) (t 30 (pg g) (tl 31 (.slice ao n c) X 0 (t 32 (iI (i:Int)) (tr 33 (pq b (i * 8)) (congr_v (by rw [Nat.zero_add]) (run_ixa 8 b 0 n c i hk_i YR.p0)) (t 34 (pq b (i * 8 + 1)) (tr 35 (iU (E i).d) (ldE1 YR hk_i 1 _ (by decide) rfl) (t 36 (iU d) ?_))))))))))
   by_cases c4:((E i).d:Int)=d
   ·refine tq 37 (.bool (((E i).d:Int) == d)) (bT) (congrArg Value.bool (beq_iff_eq.2 c4)) (t 38 (bT) (gl_nil (ge_then (gc_fr [(0,pg g),(1,iU v),(2,iU d),(6,iI 0),(7,iI (i:Int)),(8,iI (i:Int)),(9,pg g),(10,pg g),(11,pg g),(12,.slice ao n c),(13,iI ((n:Nat):Int)),(14,bT),(17,pg g),(18,pg g),(19,pg g),(20,.slice ao n c),(21,iI (i:Int)),(22,pq b (i * 8)),(23,pq b (i * 8)),(24,iU (E i).v),(25,iU v),(26,bT),(27,bT),(28,pg g),(29,pg g),(30,pg g),(31,.slice ao n c),(32,iI (i:Int)),(33,pq b (i * 8)),(34,pq b (i * 8 + 1)),(35,iU (E i).d),(36,iU d),(37,bT),(38,bT)] (gc_yes (gc_seq (gc_reg (t 39 (iI (i:Int)) (t 6 (iI (i:Int)) (gl_nil (ge_then (gc_ret (ge_br (ge_tr (ge_tr (ge_br (ge_tr (ge_ret (iI (i:Int)) (rs1 6 (by kernel_rfl) (by kernel_rfl)) ?_))))))))))))))))))
    exact absurd ⟨c3,c4⟩ (hno i hk_i)
   ·exact tq 37 (.bool (((E i).d:Int) == d)) (bF) (congrArg Value.bool (beq_eq_false_iff_ne.2 c4)) (t 38 (bF) (gl_nil (ge_then (gc_fr [(0,pg g),(1,iU v),(2,iU d),(6,iI 0),(7,iI (i:Int)),(8,iI (i:Int)),(9,pg g),(10,pg g),(11,pg g),(12,.slice ao n c),(13,iI ((n:Nat):Int)),(14,bT),(17,pg g),(18,pg g),(19,pg g),(20,.slice ao n c),(21,iI (i:Int)),(22,pq b (i * 8)),(23,pq b (i * 8)),(24,iU (E i).v),(25,iU v),(26,bT),(27,bT),(28,pg g),(29,pg g),(30,pg g),(31,.slice ao n c),(32,iI (i:Int)),(33,pq b (i * 8)),(34,pq b (i * 8 + 1)),(35,iU (E i).d),(36,iU d),(37,bF),(38,bF)] (gc_no (gc_skip (ge_bn (ge_then (gc_reg (t 15 (iI (i:Int)) (tq 16 (iI (IntKind.i64.wrap ((i:Int) + 1))) (iI ((i:Int) + 1)) (wi (by omega)) (t 7 (iI ((i:Int) + 1)) (gl_nil (ge_round (i + 1) (by omega) ⟨by omega,trivial,X,YR,BB⟩ (by kernel_rfl)))))))))))))))
  ·exact tq 26 (.bool (((E i).v:Int) == v)) (bF) (congrArg Value.bool (beq_eq_false_iff_ne.2 c3)) (t 27 (bF) (tn 28 (tn 29 (tn 30 (tn 31 (tn 32 (tn 33 (tn 34 (tn 35 (tn 36 (tn 37 (t 38 (bF) (gl_nil (ge_then (gc_fr [(0,pg g),(1,iU v),(2,iU d),(6,iI 0),(7,iI (i:Int)),(8,iI (i:Int)),(9,pg g),(10,pg g),(11,pg g),(12,.slice ao n c),(13,iI ((n:Nat):Int)),(14,bT),(17,pg g),(18,pg g),(19,pg g),(20,.slice ao n c),(21,iI (i:Int)),(22,pq b (i * 8)),(23,pq b (i * 8)),(24,iU (E i).v),(25,iU v),(26,bF),(27,bF),(28,undef),(29,undef),(30,undef),(31,undef),(32,undef),(33,undef),(34,undef),(35,undef),(36,undef),(37,undef),(38,bF)] (gc_no (gc_skip (ge_bn (ge_then (gc_reg (t 15 (iI (i:Int)) (tq 16 (iI (IntKind.i64.wrap ((i:Int) + 1))) (iI ((i:Int) + 1)) (wi (by omega)) (t 7 (iI ((i:Int) + 1)) (gl_nil (ge_round (i + 1) (by omega) ⟨by omega,trivial,X,YR,BB⟩ (by kernel_rfl))))))))))))))))))))))))))
 ·skip
  refine tq 14 (.bool (decide ((i:Int) < ((n:Nat):Int)))) (bF) (congrArg Value.bool (decide_eq_false c2)) (gl_nil (ge_then (gc_no (gc_exit (ge_tx (ge_tx (ge_bx (ge_then (gc_seq (gc_reg (t 6 (iI (-1)) (gl_nil (ge_then (gc_ret (ge_ret (iI (-1)) (rs1 6 (by kernel_rfl) (by kernel_rfl)) ?_)))))))))))))))
  exact ⟨rfl,BB⟩
theorem at_yes {w:World} {g b:Nat} {ao:Option Addr} {n c zz:Nat} {E:Nat->E8} {v d:Int} (hv:0<=v/\v < 18446744073709551616) (hd:0<=d/\d < 18446744073709551616) (X:Blk w g [.slice ao n c] 30) (YR:Ry w b ao n c zz E) (hn:n<=100) {i0:Nat} (hk_i0:i0 < n) (hy:(E i0).v=v/\(E i0).d=d) (hu:∀ j,j < i0->¬ ((E j).v=v/\(E j).d=d)):Calls Tryz.prog 59 #[pg g,.int .u64 v,.int .u64 d] w fun e w'=>e=.returned (.int .i64 (i0:Int))/\Below w.heap.size w w':=by
 have BB:=Below.refl w.heap.size w
 refine gc_enter (n:=40) Tryz.func59 rfl ?_
 refine gc_seq (gc_reg (t 6 (iI 0) (gl_nil (ge_then (gc_seq (gc_seq (gc_reg (t 7 (iI 0) (gl_nil (ge_then (gc_block (gc_loop (fun i=>n - i) (fun (i:Nat)=>[(0,pg g),(1,iU v),(2,iU d),(6,iI 0),(7,iI (i:Int))]) (fun i w'=>i<=n/\i<=i0/\Blk w' g [.slice ao n c] 30/\Ry w' b ao n c zz E/\Below w.heap.size w w') 0 ⟨Nat.zero_le _,Nat.zero_le _,X,YR,BB⟩ (by kernel_rfl) ?_))))))))))))
 clear X YR BB
 rintro i v1 ⟨hi,hx_i,X,YR,BB⟩
 refine gc_seq (gc_seq (gc_reg (t 8 (iI (i:Int)) (t 9 (pg g) (t 10 (pg g) (t 11 (pg g) (tl 12 (.slice ao n c) X 0 (t 13 (iI ((n:Nat):Int)) ?_))))))))
 by_cases c2:(i:Int) < ((n:Nat):Int)
 ·have hk_i:i < n:=by omega
  refine tq 14 (.bool (decide ((i:Int) < ((n:Nat):Int)))) (bT) (congrArg Value.bool (decide_eq_true c2)) (gl_nil (ge_then (gc_yes (gc_skip (ge_then (gc_seq (gc_block (gc_seq (gc_reg (t 17 (pg g) (t 18 (pg g) (t 19 (pg g) (tl 20 (.slice ao n c) X 0 (t 21 (iI (i:Int)) (tr 22 (pq b (i * 8)) (congr_v (by rw [Nat.zero_add]) (run_ixa 8 b 0 n c i hk_i YR.p0)) (t 23 (pq b (i * 8)) (tr 24 (iU (E i).v) (ldE1 YR hk_i 0 _ (by decide) rfl) (t 25 (iU v) ?_))))))))))))))))))
  by_cases c3:((E i).v:Int)=v
  ·refine tq 26 (.bool (((E i).v:Int) == v)) (bT) (congrArg Value.bool (beq_iff_eq.2 c3)) (t 27 (bT) (t 28 (pg g) (t 29 (pg g) (t 30 (pg g) (tl 31 (.slice ao n c) X 0 (t 32 (iI (i:Int)) (tr 33 (pq b (i * 8)) (congr_v (by rw [Nat.zero_add]) (run_ixa 8 b 0 n c i hk_i YR.p0)) (t 34 (pq b (i * 8 + 1)) (tr 35 (iU (E i).d) (ldE1 YR hk_i 1 _ (by decide) rfl) (t 36 (iU d) ?_))))))))))
   by_cases c4:((E i).d:Int)=d
   ·refine tq 37 (.bool (((E i).d:Int) == d)) (bT) (congrArg Value.bool (beq_iff_eq.2 c4)) (t 38 (bT) (gl_nil (ge_then (gc_fr [(0,pg g),(1,iU v),(2,iU d),(6,iI 0),(7,iI (i:Int)),(8,iI (i:Int)),(9,pg g),(10,pg g),(11,pg g),(12,.slice ao n c),(13,iI ((n:Nat):Int)),(14,bT),(17,pg g),(18,pg g),(19,pg g),(20,.slice ao n c),(21,iI (i:Int)),(22,pq b (i * 8)),(23,pq b (i * 8)),(24,iU (E i).v),(25,iU v),(26,bT),(27,bT),(28,pg g),(29,pg g),(30,pg g),(31,.slice ao n c),(32,iI (i:Int)),(33,pq b (i * 8)),(34,pq b (i * 8 + 1)),(35,iU (E i).d),(36,iU d),(37,bT),(38,bT)] (gc_yes (gc_seq (gc_reg (t 39 (iI (i:Int)) (t 6 (iI (i:Int)) (gl_nil (ge_then (gc_ret (ge_br (ge_tr (ge_tr (ge_br (ge_tr (ge_ret (iI (i:Int)) (rs1 6 (by kernel_rfl) (by kernel_rfl)) ?_))))))))))))))))))
    have e:i=i0:=by
     rcases Nat.lt_or_ge i i0 with h | h
     ·exact absurd ⟨c3,c4⟩ (hu i h)
     ·omega
    subst e
    exact ⟨rfl,BB⟩
   ·exact tq 37 (.bool (((E i).d:Int) == d)) (bF) (congrArg Value.bool (beq_eq_false_iff_ne.2 c4)) (t 38 (bF) (gl_nil (ge_then (gc_fr [(0,pg g),(1,iU v),(2,iU d),(6,iI 0),(7,iI (i:Int)),(8,iI (i:Int)),(9,pg g),(10,pg g),(11,pg g),(12,.slice ao n c),(13,iI ((n:Nat):Int)),(14,bT),(17,pg g),(18,pg g),(19,pg g),(20,.slice ao n c),(21,iI (i:Int)),(22,pq b (i * 8)),(23,pq b (i * 8)),(24,iU (E i).v),(25,iU v),(26,bT),(27,bT),(28,pg g),(29,pg g),(30,pg g),(31,.slice ao n c),(32,iI (i:Int)),(33,pq b (i * 8)),(34,pq b (i * 8 + 1)),(35,iU (E i).d),(36,iU d),(37,bF),(38,bF)] (gc_no (gc_skip (ge_bn (ge_then (gc_reg (t 15 (iI (i:Int)) (tq 16 (iI (IntKind.i64.wrap ((i:Int) + 1))) (iI ((i:Int) + 1)) (wi (by omega)) (t 7 (iI ((i:Int) + 1)) (gl_nil (ge_round (i + 1) (by omega) ⟨by omega,(Nat.lt_of_le_of_ne hx_i fun e=>(fun k=>c4 k.2) (e▸hy)),X,YR,BB⟩ (by kernel_rfl)))))))))))))))
  ·exact tq 26 (.bool (((E i).v:Int) == v)) (bF) (congrArg Value.bool (beq_eq_false_iff_ne.2 c3)) (t 27 (bF) (tn 28 (tn 29 (tn 30 (tn 31 (tn 32 (tn 33 (tn 34 (tn 35 (tn 36 (tn 37 (t 38 (bF) (gl_nil (ge_then (gc_fr [(0,pg g),(1,iU v),(2,iU d),(6,iI 0),(7,iI (i:Int)),(8,iI (i:Int)),(9,pg g),(10,pg g),(11,pg g),(12,.slice ao n c),(13,iI ((n:Nat):Int)),(14,bT),(17,pg g),(18,pg g),(19,pg g),(20,.slice ao n c),(21,iI (i:Int)),(22,pq b (i * 8)),(23,pq b (i * 8)),(24,iU (E i).v),(25,iU v),(26,bF),(27,bF),(28,undef),(29,undef),(30,undef),(31,undef),(32,undef),(33,undef),(34,undef),(35,undef),(36,undef),(37,undef),(38,bF)] (gc_no (gc_skip (ge_bn (ge_then (gc_reg (t 15 (iI (i:Int)) (tq 16 (iI (IntKind.i64.wrap ((i:Int) + 1))) (iI ((i:Int) + 1)) (wi (by omega)) (t 7 (iI ((i:Int) + 1)) (gl_nil (ge_round (i + 1) (by omega) ⟨by omega,(Nat.lt_of_le_of_ne hx_i fun e=>(fun k=>c3 k.1) (e▸hy)),X,YR,BB⟩ (by kernel_rfl))))))))))))))))))))))))))
 ·skip
  refine tq 14 (.bool (decide ((i:Int) < ((n:Nat):Int)))) (bF) (congrArg Value.bool (decide_eq_false c2)) (gl_nil (ge_then (gc_no (gc_exit (ge_tx (ge_tx (ge_bx (ge_then (gc_seq (gc_reg (t 6 (iI (-1)) (gl_nil (ge_then (gc_ret (ge_ret (iI (-1)) (rs1 6 (by kernel_rfl) (by kernel_rfl)) ?_)))))))))))))))
  exfalso; omega
theorem rStake_n {w:World} {g b:Nat} {ao:Option Addr} {n c zz:Nat} {E:Nat->E8} {v d:Int} (hv:0<=v/\v < 18446744073709551616) (hd:0<=d/\d < 18446744073709551616) (X:Blk w g [.slice ao n c] 30) (YR:Ry w b ao n c zz E) (hn:n<=100) (hno:∀ j,j < n->¬ ((E j).v=v/\(E j).d=d)):Calls Tryz.prog 24 #[pg g,.int .u64 v,.int .u64 d] w fun e w'=>∃ a k d_ a' k' d',e=.returned (.agg #[.slice a k d_,.slice a' k' d'])/\RQ w' a k d_ a' k' d' (0)/\Below w.heap.size w w':=by
 have BB:=Below.refl w.heap.size w
 refine gc_enter (n:=23) Tryz.func24 rfl ?_
 refine gc_seq (gc_reg ?_)
 have lX:=X.lt
 refine ta 6 [zS,zS] 40 (pg) ?_
 intro v1 g2 Xg2 hg2 B
 have hbg2:=Nat.le_trans BB.size hg2
 replace X:=X.keep B
 replace YR:=YR.keep B
 replace BB:=joinB BB B
 refine gl_nil (ge_then (gc_seq (gc_reg (t 8 (pg g) (t 9 (iU v) (t 10 (iU d) (tc 11 59 #[pg g,iU v,iU d] (at_no hv hd X YR hn hno) ?_)))))))
 rintro _ v3 ⟨rfl,B⟩
 refine ⟨_,rfl,?_⟩
 replace X:=X.keep B
 replace YR:=YR.keep B
 replace BB:=joinB BB B
 replace Xg2:=Xg2.keep B
 refine t 7 (iI (-1)) (gl_nil (ge_then (gc_seq (gc_seq (gc_reg (t 12 (iI (-1)) (t 13 (bT) (gl_nil (ge_then (gc_yes (gc_seq (gc_reg (tc 14 60 #[] (nothing_any) ?_)))))))))))))
 rintro _ v5 ⟨aq4,kq4,dq4,bq4,lq4,eq4,rfl,Qq4,B⟩
 refine ⟨_,rfl,?_⟩
 replace X:=X.keep B
 replace YR:=YR.keep B
 replace BB:=joinB BB B
 replace Xg2:=Xg2.keep B
 refine ts Xg2 0 (.agg #[.slice aq4 kq4 dq4,.slice bq4 lq4 eq4]) [.slice aq4 kq4 dq4,.slice bq4 lq4 eq4] [.slice aq4 kq4 dq4,.slice bq4 lq4 eq4] ?_
 intro v6 Y C
 replace X:=X.chg C (show g≠g2 by omega)
 replace YR:=YR.cg Xg2 C (by rfl) (by decide)
 replace BB:=belowC BB C (by omega)
 replace Qq4:=Qq4.cg Xg2 C (by rfl)
 have Xg2:=Y
 refine gl_nil (ge_then (gc_fr [(0,pg g),(6,pg g2),(7,iI (-1))] (gc_ret (ge_tr (ge_ret (.agg #[.slice aq4 kq4 dq4,.slice bq4 lq4 eq4]) (rsc 6 (T:=40) (by kernel_rfl) (by kernel_rfl) (lr Xg2 0)) ?_)))))
 exact ⟨aq4,kq4,dq4,bq4,lq4,eq4,rfl,Qq4,BB⟩
theorem rStake_y {w:World} {g b:Nat} {ao:Option Addr} {n c zz:Nat} {E:Nat->E8} {v d:Int} (hv:0<=v/\v < 18446744073709551616) (hd:0<=d/\d < 18446744073709551616) (X:Blk w g [.slice ao n c] 30) (YR:Ry w b ao n c zz E) (hn:n<=100) {i0:Nat} (hk_i0:i0 < n) (hy:(E i0).v=v/\(E i0).d=d) (hu:∀ j,j < i0->¬ ((E j).v=v/\(E j).d=d)):Calls Tryz.prog 24 #[pg g,.int .u64 v,.int .u64 d] w fun e w'=>∃ a k d_ a' k' d',e=.returned (.agg #[.slice a k d_,.slice a' k' d'])/\RQ w' a k d_ a' k' d' ((E i0).r)/\Below w.heap.size w w':=by
 have BB:=Below.refl w.heap.size w
 refine gc_enter (n:=23) Tryz.func24 rfl ?_
 refine gc_seq (gc_reg ?_)
 have lX:=X.lt
 refine ta 6 [zS,zS] 40 (pg) ?_
 intro v1 g2 Xg2 hg2 B
 have hbg2:=Nat.le_trans BB.size hg2
 replace X:=X.keep B
 replace YR:=YR.keep B
 replace BB:=joinB BB B
 refine gl_nil (ge_then (gc_seq (gc_reg (t 8 (pg g) (t 9 (iU v) (t 10 (iU d) (tc 11 59 #[pg g,iU v,iU d] (at_yes hv hd X YR hn hk_i0 hy hu) ?_)))))))
 rintro _ v3 ⟨rfl,B⟩
 refine ⟨_,rfl,?_⟩
 replace X:=X.keep B
 replace YR:=YR.keep B
 replace BB:=joinB BB B
 replace Xg2:=Xg2.keep B
 refine t 7 (iI (i0:Int)) (gl_nil (ge_then (gc_seq (gc_seq (gc_reg (t 12 (iI (i0:Int)) (tq 13 (.bool (decide ((i0:Int) < 0))) (bF) (congrArg Value.bool (decide_eq_false (by omega))) (gl_nil (ge_then (gc_no (gc_skip (ge_then (gc_seq (gc_reg (t 15 (pg g) (t 16 (pg g) (t 17 (pg g) (tl 18 (.slice ao n c) X 0 (t 19 (iI (i0:Int)) (tr 20 (pq b (i0 * 8)) (congr_v (by rw [Nat.zero_add]) (run_ixa 8 b 0 n c i0 hk_i0 YR.p0)) (t 21 (pq b (i0 * 8 + 2)) (tr 22 (.agg #[.slice (E i0).wv.1 (E i0).wv.2.1 (E i0).wv.2.2.1,.slice (E i0).wv.2.2.2.1 (E i0).wv.2.2.2.2.1 (E i0).wv.2.2.2.2.2]) (ldE2 YR hk_i0 2 _ (by decide) rfl rfl) (ts Xg2 0 (.agg #[.slice (E i0).wv.1 (E i0).wv.2.1 (E i0).wv.2.2.1,.slice (E i0).wv.2.2.2.1 (E i0).wv.2.2.2.2.1 (E i0).wv.2.2.2.2.2]) [.slice (E i0).wv.1 (E i0).wv.2.1 (E i0).wv.2.2.1,.slice (E i0).wv.2.2.2.1 (E i0).wv.2.2.2.2.1 (E i0).wv.2.2.2.2.2] [.slice (E i0).wv.1 (E i0).wv.2.1 (E i0).wv.2.2.1,.slice (E i0).wv.2.2.2.1 (E i0).wv.2.2.2.2.1 (E i0).wv.2.2.2.2.2] ?_)))))))))))))))))))))))
 intro v4 Y C
 replace X:=X.chg C (show g≠g2 by omega)
 replace YR:=YR.cg Xg2 C (by rfl) (by decide)
 replace BB:=belowC BB C (by omega)
 have Xg2:=Y
 refine gl_nil (ge_then (gc_fr [(6,pg g2)] (gc_ret (ge_ret (.agg #[.slice (E i0).wv.1 (E i0).wv.2.1 (E i0).wv.2.2.1,.slice (E i0).wv.2.2.2.1 (E i0).wv.2.2.2.2.1 (E i0).wv.2.2.2.2.2]) (rsc 6 (T:=40) (by kernel_rfl) (by kernel_rfl) (lr Xg2 0)) ?_))))
 exact ⟨(E i0).wv.1,(E i0).wv.2.1,(E i0).wv.2.2.1,(E i0).wv.2.2.2.1,(E i0).wv.2.2.2.2.1,(E i0).wv.2.2.2.2.2,rfl,(YR.q i0 hk_i0).1,BB⟩
theorem rOwed_n {w:World} {g b:Nat} {ao:Option Addr} {n c zz:Nat} {E:Nat->E8} {v d:Int} (hv:0<=v/\v < 18446744073709551616) (hd:0<=d/\d < 18446744073709551616) (X:Blk w g [.slice ao n c] 30) (YR:Ry w b ao n c zz E) (hn:n<=100) (hno:∀ j,j < n->¬ ((E j).v=v/\(E j).d=d)):Calls Tryz.prog 26 #[pg g,.int .u64 v,.int .u64 d] w fun e w'=>∃ a k d_ a' k' d',e=.returned (.agg #[.slice a k d_,.slice a' k' d'])/\RQ w' a k d_ a' k' d' (0)/\Below w.heap.size w w':=by
 have BB:=Below.refl w.heap.size w
 refine gc_enter (n:=23) Tryz.func26 rfl ?_
 refine gc_seq (gc_reg ?_)
 have lX:=X.lt
 refine ta 6 [zS,zS] 40 (pg) ?_
 intro v1 g2 Xg2 hg2 B
 have hbg2:=Nat.le_trans BB.size hg2
 replace X:=X.keep B
 replace YR:=YR.keep B
 replace BB:=joinB BB B
 refine gl_nil (ge_then (gc_seq (gc_reg (t 8 (pg g) (t 9 (iU v) (t 10 (iU d) (tc 11 59 #[pg g,iU v,iU d] (at_no hv hd X YR hn hno) ?_)))))))
 rintro _ v3 ⟨rfl,B⟩
 refine ⟨_,rfl,?_⟩
 replace X:=X.keep B
 replace YR:=YR.keep B
 replace BB:=joinB BB B
 replace Xg2:=Xg2.keep B
 refine t 7 (iI (-1)) (gl_nil (ge_then (gc_seq (gc_seq (gc_reg (t 12 (iI (-1)) (t 13 (bT) (gl_nil (ge_then (gc_yes (gc_seq (gc_reg (tc 14 60 #[] (nothing_any) ?_)))))))))))))
 rintro _ v5 ⟨aq4,kq4,dq4,bq4,lq4,eq4,rfl,Qq4,B⟩
 refine ⟨_,rfl,?_⟩
 replace X:=X.keep B
 replace YR:=YR.keep B
 replace BB:=joinB BB B
 replace Xg2:=Xg2.keep B
 refine ts Xg2 0 (.agg #[.slice aq4 kq4 dq4,.slice bq4 lq4 eq4]) [.slice aq4 kq4 dq4,.slice bq4 lq4 eq4] [.slice aq4 kq4 dq4,.slice bq4 lq4 eq4] ?_
 intro v6 Y C
 replace X:=X.chg C (show g≠g2 by omega)
 replace YR:=YR.cg Xg2 C (by rfl) (by decide)
 replace BB:=belowC BB C (by omega)
 replace Qq4:=Qq4.cg Xg2 C (by rfl)
 have Xg2:=Y
 refine gl_nil (ge_then (gc_fr [(0,pg g),(6,pg g2),(7,iI (-1))] (gc_ret (ge_tr (ge_ret (.agg #[.slice aq4 kq4 dq4,.slice bq4 lq4 eq4]) (rsc 6 (T:=40) (by kernel_rfl) (by kernel_rfl) (lr Xg2 0)) ?_)))))
 exact ⟨aq4,kq4,dq4,bq4,lq4,eq4,rfl,Qq4,BB⟩
theorem rOwed_y {w:World} {g b:Nat} {ao:Option Addr} {n c zz:Nat} {E:Nat->E8} {v d:Int} (hv:0<=v/\v < 18446744073709551616) (hd:0<=d/\d < 18446744073709551616) (X:Blk w g [.slice ao n c] 30) (YR:Ry w b ao n c zz E) (hn:n<=100) {i0:Nat} (hk_i0:i0 < n) (hy:(E i0).v=v/\(E i0).d=d) (hu:∀ j,j < i0->¬ ((E j).v=v/\(E j).d=d)):Calls Tryz.prog 26 #[pg g,.int .u64 v,.int .u64 d] w fun e w'=>∃ a k d_ a' k' d',e=.returned (.agg #[.slice a k d_,.slice a' k' d'])/\RQ w' a k d_ a' k' d' ((E i0).o)/\Below w.heap.size w w':=by
 have BB:=Below.refl w.heap.size w
 refine gc_enter (n:=23) Tryz.func26 rfl ?_
 refine gc_seq (gc_reg ?_)
 have lX:=X.lt
 refine ta 6 [zS,zS] 40 (pg) ?_
 intro v1 g2 Xg2 hg2 B
 have hbg2:=Nat.le_trans BB.size hg2
 replace X:=X.keep B
 replace YR:=YR.keep B
 replace BB:=joinB BB B
 refine gl_nil (ge_then (gc_seq (gc_reg (t 8 (pg g) (t 9 (iU v) (t 10 (iU d) (tc 11 59 #[pg g,iU v,iU d] (at_yes hv hd X YR hn hk_i0 hy hu) ?_)))))))
 rintro _ v3 ⟨rfl,B⟩
 refine ⟨_,rfl,?_⟩
 replace X:=X.keep B
 replace YR:=YR.keep B
 replace BB:=joinB BB B
 replace Xg2:=Xg2.keep B
 refine t 7 (iI (i0:Int)) (gl_nil (ge_then (gc_seq (gc_seq (gc_reg (t 12 (iI (i0:Int)) (tq 13 (.bool (decide ((i0:Int) < 0))) (bF) (congrArg Value.bool (decide_eq_false (by omega))) (gl_nil (ge_then (gc_no (gc_skip (ge_then (gc_seq (gc_reg (t 15 (pg g) (t 16 (pg g) (t 17 (pg g) (tl 18 (.slice ao n c) X 0 (t 19 (iI (i0:Int)) (tr 20 (pq b (i0 * 8)) (congr_v (by rw [Nat.zero_add]) (run_ixa 8 b 0 n c i0 hk_i0 YR.p0)) (t 21 (pq b (i0 * 8 + 4)) (tr 22 (.agg #[.slice (E i0).ov.1 (E i0).ov.2.1 (E i0).ov.2.2.1,.slice (E i0).ov.2.2.2.1 (E i0).ov.2.2.2.2.1 (E i0).ov.2.2.2.2.2]) (ldE2 YR hk_i0 4 _ (by decide) rfl rfl) (ts Xg2 0 (.agg #[.slice (E i0).ov.1 (E i0).ov.2.1 (E i0).ov.2.2.1,.slice (E i0).ov.2.2.2.1 (E i0).ov.2.2.2.2.1 (E i0).ov.2.2.2.2.2]) [.slice (E i0).ov.1 (E i0).ov.2.1 (E i0).ov.2.2.1,.slice (E i0).ov.2.2.2.1 (E i0).ov.2.2.2.2.1 (E i0).ov.2.2.2.2.2] [.slice (E i0).ov.1 (E i0).ov.2.1 (E i0).ov.2.2.1,.slice (E i0).ov.2.2.2.1 (E i0).ov.2.2.2.2.1 (E i0).ov.2.2.2.2.2] ?_)))))))))))))))))))))))
 intro v4 Y C
 replace X:=X.chg C (show g≠g2 by omega)
 replace YR:=YR.cg Xg2 C (by rfl) (by decide)
 replace BB:=belowC BB C (by omega)
 have Xg2:=Y
 refine gl_nil (ge_then (gc_fr [(6,pg g2)] (gc_ret (ge_ret (.agg #[.slice (E i0).ov.1 (E i0).ov.2.1 (E i0).ov.2.2.1,.slice (E i0).ov.2.2.2.1 (E i0).ov.2.2.2.2.1 (E i0).ov.2.2.2.2.2]) (rsc 6 (T:=40) (by kernel_rfl) (by kernel_rfl) (lr Xg2 0)) ?_))))
 exact ⟨(E i0).ov.1,(E i0).ov.2.1,(E i0).ov.2.2.1,(E i0).ov.2.2.2.1,(E i0).ov.2.2.2.2.1,(E i0).ov.2.2.2.2.2,rfl,(YR.q i0 hk_i0).2,BB⟩
def ps (f:Nat->Rat) (E:Nat->E8) (v:Int):Nat->Rat
 | 0=>0
 | i + 1=>if (E i).v=v then ps f E v i + f i else ps f E v i
theorem ps_nn {f:Nat->Rat} {E:Nat->E8} {v:Int} {n:Nat} (h:∀ i,i < n->0<=f i):0<=ps f E v n:=by
 induction n with
 | zero=>exact Rat.le_refl
 | succ n ih =>
  have a:=ih fun i hi=>h i (by omega)
  have b:=h n (by omega)
  simp only [ps]; split
  ·grind
  ·exact a
theorem ps_ft {f:Nat->Rat} {E:Nat->E8} {v:Int} {n L:Nat} (h:∀ i,i < n->0<=f i/\Ft (f i) L):Ft (ps f E v n) (n * (L + 1) + 1):=by
 induction n with
 | zero=>exact ft_up (show Ft 0 1 by decide +kernel) (by omega)
 | succ n ih =>
  have a:=ih fun i hi=>h i (by omega)
  have b:=h n (by omega)
  have e:=ft_add a b.2 (ps_nn fun i hi=>(h i (by omega)).1) b.1
  simp only [ps]; split
  ·exact ft_up e (by rw [Nat.succ_mul]; omega)
  ·exact ft_up a (by rw [Nat.succ_mul]; omega)
theorem ps_stakes {E:Nat->E8} {v:Int} {n:Nat}:sStakes (sO E n) v=ps (fun i=>(E i).r) E v n:=by
 induction n with
 | zero=>rfl
 | succ n ih=>simp only [sO,stakes_app,ih,sStakes,ps]; split<;>grind
theorem ps_owes {E:Nat->E8} {v:Int} {n:Nat}:sOwes (sO E n) v=ps (fun i=>(E i).o) E v n:=by
 induction n with
 | zero=>rfl
 | succ n ih=>simp only [sO,owes_app,ih,sOwes,ps]; split<;>grind
theorem rStakes {w:World} {g b:Nat} {ao:Option Addr} {n c zz:Nat} {E:Nat->E8} {L:Nat} {v:Int} (hv:0<=v/\v < 18446744073709551616) (X:Blk w g [.slice ao n c] 30) (YR:Ry w b ao n c zz E) (hn:n<=100) (hF:∀ i,i < n->Ft (E i).r L/\Ft (E i).o L) (hl:L<=640000):Calls Tryz.prog 28 #[pg g,.int .u64 v] w fun e w'=>∃ a k d_ a' k' d',e=.returned (.agg #[.slice a k d_,.slice a' k' d'])/\RQ w' a k d_ a' k' d' (ps (fun i=>(E i).r) E v n)/\Below w.heap.size w w':=by
 have hN:∀ j,j < n->0<=(E j).r:=fun j hj=>(YR.q j hj).1.nn
 have hS:∀ j,j < n->Ft (E j).r L:=fun j hj=>(hF j hj).1
 have BB:=Below.refl w.heap.size w
 refine gc_enter (n:=38) Tryz.func28 rfl ?_
 refine gc_seq (gc_reg ?_)
 have lX:=X.lt
 refine ta 4 [zS,zS] 40 (pg) ?_
 intro v1 g2 Xg2 hg2 B
 have hbg2:=Nat.le_trans BB.size hg2
 replace X:=X.keep B
 replace YR:=YR.keep B
 replace BB:=joinB BB B
 refine gl_nil (ge_then (gc_seq (gc_reg (tc 7 60 #[] (nothing_any) ?_))))
 rintro _ v4 ⟨aq3,kq3,dq3,bq3,lq3,eq3,rfl,Qq3,B⟩
 refine ⟨_,rfl,?_⟩
 replace X:=X.keep B
 replace YR:=YR.keep B
 replace BB:=joinB BB B
 replace Xg2:=Xg2.keep B
 have lX:=X.lt
 have lXg2:=Xg2.lt
 refine ta 5 [zS,zS] 40 (pg) ?_
 intro v5 g6 Xg6 hg6 B
 have hbg6:=Nat.le_trans BB.size hg6
 replace X:=X.keep B
 replace YR:=YR.keep B
 replace BB:=joinB BB B
 replace Xg2:=Xg2.keep B
 replace Qq3:=Qq3.keep B
 refine ts Xg6 0 (.agg #[.slice aq3 kq3 dq3,.slice bq3 lq3 eq3]) [.slice aq3 kq3 dq3,.slice bq3 lq3 eq3] [.slice aq3 kq3 dq3,.slice bq3 lq3 eq3] ?_
 intro v7 Y C
 replace X:=X.chg C (show g≠g6 by omega)
 replace YR:=YR.cg Xg6 C (by rfl) (by decide)
 replace BB:=belowC BB C (by omega)
 replace Xg2:=Xg2.chg C (show g2≠g6 by omega)
 replace Qq3:=Qq3.cg Xg6 C (by rfl)
 have Xg6:=Y
 refine gl_nil (ge_then (gc_seq (gc_seq (gc_reg (t 6 (iI 0) (gl_nil (ge_then (gc_block (gc_loop (fun i=>n - i) (fun (i:Nat)=>[(0,pg g),(1,iU v),(4,pg g2),(5,pg g6),(6,iI (i:Int))]) (fun i w'=>i<=n/\Blk w' g [.slice ao n c] 30/\Ry w' b ao n c zz E/\Below w.heap.size w w'/\Blk w' g2 [zS,zS] 40/\∃ a k d_ a' k' d',Blk w' g6 [.slice a k d_,.slice a' k' d'] 40/\RQ w' a k d_ a' k' d' (ps (fun i=>(E i).r) E v i)) 0 ⟨Nat.zero_le _,X,YR,BB,Xg2,aq3,kq3,dq3,bq3,lq3,eq3,Xg6,Qq3⟩ (by kernel_rfl) ?_)))))))))
 clear X YR BB Xg2 Xg6 Qq3
 rintro i v8 ⟨hi,X,YR,BB,Xg2,aS,kS,dS,bS,lS,eS,Xg6,QS⟩
 refine gc_seq (gc_seq (gc_reg (t 8 (iI (i:Int)) (t 9 (pg g) (t 10 (pg g) (t 11 (pg g) (tl 12 (.slice ao n c) X 0 (t 13 (iI ((n:Nat):Int)) ?_))))))))
 by_cases c9:(i:Int) < ((n:Nat):Int)
 ·have hk_i:i < n:=by omega
  refine tq 14 (.bool (decide ((i:Int) < ((n:Nat):Int)))) (bT) (congrArg Value.bool (decide_eq_true c9)) (gl_nil (ge_then (gc_yes (gc_skip (ge_then (gc_seq (gc_block (gc_seq (gc_reg (t 17 (pg g) (t 18 (pg g) (t 19 (pg g) (tl 20 (.slice ao n c) X 0 (t 21 (iI (i:Int)) (tr 22 (pq b (i * 8)) (congr_v (by rw [Nat.zero_add]) (run_ixa 8 b 0 n c i hk_i YR.p0)) (t 23 (pq b (i * 8)) (tr 24 (iU (E i).v) (ldE1 YR hk_i 0 _ (by decide) rfl) (t 25 (iU v) ?_))))))))))))))))))
  by_cases c10:((E i).v:Int)=v
  ·refine tq 26 (.bool (((E i).v:Int) == v)) (bT) (congrArg Value.bool (beq_iff_eq.2 c10)) (gl_nil (ge_then (gc_fr [(0,pg g),(1,iU v),(4,pg g2),(5,pg g6),(6,iI (i:Int)),(8,iI (i:Int)),(9,pg g),(10,pg g),(11,pg g),(12,.slice ao n c),(13,iI ((n:Nat):Int)),(14,bT),(17,pg g),(18,pg g),(19,pg g),(20,.slice ao n c),(21,iI (i:Int)),(22,pq b (i * 8)),(23,pq b (i * 8)),(24,iU (E i).v),(25,iU v),(26,bT)] (gc_yes ?_))))
   replace X:=X.drew
   replace YR:=YR.drew
   replace BB:=BB.drew
   replace Xg2:=Xg2.drew
   replace Xg6:=Xg6.drew
   replace QS:=QS.drew
   refine gc_draw (fun w'=>Blk w' g6 [.slice aS kS dS,.slice bS lS eS] 40/\Blk w' g [.slice ao n c] 30/\Ry w' b ao n c zz E) (fun i=>decide (10<=i)) ⟨Xg6,X,YR⟩ ?_
   refine zlr 0 27 [.slice aS kS dS,.slice bS lS eS] (fun _ h=>h.1) 0 (zp 1 28 (pg g) (zp 2 29 (pg g) (zp 3 30 (pg g) (zl 4 31 (.slice ao n c) (fun _ h=>h.2.1) 0 (zp 5 32 (iI (i:Int)) (zp 6 33 (pq b (i * 8)) ?_ (hrun:=fun _=>congr_v (by rw [Nat.zero_add]) (run_ixa 8 b 0 n c i hk_i YR.p0))))))))
   refine zp 7 34 (pq b (i * 8 + 2)) (zr 8 35 (.agg #[.slice (E i).wv.1 (E i).wv.2.1 (E i).wv.2.2.1,.slice (E i).wv.2.2.2.1 (E i).wv.2.2.2.2.1 (E i).wv.2.2.2.2.2]) (fun _ h=>ldE2 h.2.2 hk_i 2 _ (by decide) rfl rfl) (zc 9 36 53 #[.agg #[.slice aS kS dS,.slice bS lS eS],.agg #[.slice (E i).wv.1 (E i).wv.2.1 (E i).wv.2.2.1,.slice (E i).wv.2.2.2.1 (E i).wv.2.2.2.2.1 (E i).wv.2.2.2.2.2]] (tpAdd (B:=2000000) (QS.v (ft_up (ps_ft (n:=i) (L:=L) fun j hj=>⟨hN j (by omega),hS j (by omega)⟩) (by have:=Nat.mul_le_mul (show i<=100 by omega) (show L + 1<=640001 by omega); omega))) ((YR.q i hk_i).1.v (ft_up (hF i hk_i).1 (by omega))) (by omega)) ?_))
   rintro _ v12 ⟨aq11,kq11,dq11,bq11,lq11,eq11,rfl,Qq11,B⟩
   replace X:=X.keep B
   replace YR:=YR.keep B
   replace BB:=joinB BB B
   replace Xg2:=Xg2.keep B
   replace Xg6:=Xg6.keep B
   replace QS:=QS.keep B
   refine ⟨_,rfl,⟨Xg6,X,YR⟩,?_⟩
   refine gz_late (ys 10 Xg6 0 (.agg #[.slice aq11 kq11 dq11,.slice bq11 lq11 eq11]) [.slice aq11 kq11 dq11,.slice bq11 lq11 eq11] [.slice aq11 kq11 dq11,.slice bq11 lq11 eq11] ?_)
   intro v13 Y C
   replace X:=X.chg C (show g≠g6 by omega)
   replace YR:=YR.cg Xg6 C (by rfl) (by decide)
   replace BB:=belowC BB C (by omega)
   replace Xg2:=Xg2.chg C (show g2≠g6 by omega)
   replace QS:=QS.cg Xg6 C (by rfl)
   replace Qq11:=Qq11.cg Xg6 C (by rfl)
   have Xg6:=Y
   exact gy_done (ge_bn (ge_then (gc_reg (t 15 (iI (i:Int)) (tq 16 (iI (IntKind.i64.wrap ((i:Int) + 1))) (iI ((i:Int) + 1)) (wi (by omega)) (t 6 (iI ((i:Int) + 1)) (gl_nil (ge_round (i + 1) (by omega) ⟨by omega,X,YR,BB,Xg2,aq11,kq11,dq11,bq11,lq11,eq11,Xg6,Qq11.is (by simp only [ps]; rw [if_pos c10])⟩ (by kernel_rfl)))))))))
  ·exact tq 26 (.bool (((E i).v:Int) == v)) (bF) (congrArg Value.bool (beq_eq_false_iff_ne.2 c10)) (gl_nil (ge_then (gc_fr [(0,pg g),(1,iU v),(4,pg g2),(5,pg g6),(6,iI (i:Int)),(8,iI (i:Int)),(9,pg g),(10,pg g),(11,pg g),(12,.slice ao n c),(13,iI ((n:Nat):Int)),(14,bT),(17,pg g),(18,pg g),(19,pg g),(20,.slice ao n c),(21,iI (i:Int)),(22,pq b (i * 8)),(23,pq b (i * 8)),(24,iU (E i).v),(25,iU v),(26,bF)] (gc_no (gc_skip (ge_bn (ge_then (gc_reg (t 15 (iI (i:Int)) (tq 16 (iI (IntKind.i64.wrap ((i:Int) + 1))) (iI ((i:Int) + 1)) (wi (by omega)) (t 6 (iI ((i:Int) + 1)) (gl_nil (ge_round (i + 1) (by omega) ⟨by omega,X,YR,BB,Xg2,aS,kS,dS,bS,lS,eS,Xg6,QS.is (by simp only [ps]; rw [if_neg c10])⟩ (by kernel_rfl))))))))))))))
 ·have hin:i=n:=by omega
  refine tq 14 (.bool (decide ((i:Int) < ((n:Nat):Int)))) (bF) (congrArg Value.bool (decide_eq_false c9)) (gl_nil (ge_then (gc_no (gc_exit (ge_tx (ge_tx (ge_bx (ge_then (gc_seq (gc_reg (tlr 37 [.slice aS kS dS,.slice bS lS eS] Xg6 0 (ts Xg2 0 (.agg #[.slice aS kS dS,.slice bS lS eS]) [.slice aS kS dS,.slice bS lS eS] [.slice aS kS dS,.slice bS lS eS] ?_))))))))))))
  intro v14 Y C
  replace X:=X.chg C (show g≠g2 by omega)
  replace YR:=YR.cg Xg2 C (by rfl) (by decide)
  replace BB:=belowC BB C (by omega)
  replace Xg6:=Xg6.chg C (show g6≠g2 by omega)
  replace QS:=QS.cg Xg2 C (by rfl)
  have Xg2:=Y
  refine gl_nil (ge_then (gc_ret (ge_ret (.agg #[.slice aS kS dS,.slice bS lS eS]) (rsc 4 (T:=40) (by kernel_rfl) (by kernel_rfl) (lr Xg2 0)) ?_)))
  exact ⟨aS,kS,dS,bS,lS,eS,rfl,hin▸QS,BB⟩
theorem rOwes {w:World} {g b:Nat} {ao:Option Addr} {n c zz:Nat} {E:Nat->E8} {L:Nat} {v:Int} (hv:0<=v/\v < 18446744073709551616) (X:Blk w g [.slice ao n c] 30) (YR:Ry w b ao n c zz E) (hn:n<=100) (hF:∀ i,i < n->Ft (E i).r L/\Ft (E i).o L) (hl:L<=640000):Calls Tryz.prog 30 #[pg g,.int .u64 v] w fun e w'=>∃ a k d_ a' k' d',e=.returned (.agg #[.slice a k d_,.slice a' k' d'])/\RQ w' a k d_ a' k' d' (ps (fun i=>(E i).o) E v n)/\Below w.heap.size w w':=by
 have hN:∀ j,j < n->0<=(E j).o:=fun j hj=>(YR.q j hj).2.nn
 have hS:∀ j,j < n->Ft (E j).o L:=fun j hj=>(hF j hj).2
 have BB:=Below.refl w.heap.size w
 refine gc_enter (n:=38) Tryz.func30 rfl ?_
 refine gc_seq (gc_reg ?_)
 have lX:=X.lt
 refine ta 4 [zS,zS] 40 (pg) ?_
 intro v1 g2 Xg2 hg2 B
 have hbg2:=Nat.le_trans BB.size hg2
 replace X:=X.keep B
 replace YR:=YR.keep B
 replace BB:=joinB BB B
 refine gl_nil (ge_then (gc_seq (gc_reg (tc 7 60 #[] (nothing_any) ?_))))
 rintro _ v4 ⟨aq3,kq3,dq3,bq3,lq3,eq3,rfl,Qq3,B⟩
 refine ⟨_,rfl,?_⟩
 replace X:=X.keep B
 replace YR:=YR.keep B
 replace BB:=joinB BB B
 replace Xg2:=Xg2.keep B
 have lX:=X.lt
 have lXg2:=Xg2.lt
 refine ta 5 [zS,zS] 40 (pg) ?_
 intro v5 g6 Xg6 hg6 B
 have hbg6:=Nat.le_trans BB.size hg6
 replace X:=X.keep B
 replace YR:=YR.keep B
 replace BB:=joinB BB B
 replace Xg2:=Xg2.keep B
 replace Qq3:=Qq3.keep B
 refine ts Xg6 0 (.agg #[.slice aq3 kq3 dq3,.slice bq3 lq3 eq3]) [.slice aq3 kq3 dq3,.slice bq3 lq3 eq3] [.slice aq3 kq3 dq3,.slice bq3 lq3 eq3] ?_
 intro v7 Y C
 replace X:=X.chg C (show g≠g6 by omega)
 replace YR:=YR.cg Xg6 C (by rfl) (by decide)
 replace BB:=belowC BB C (by omega)
 replace Xg2:=Xg2.chg C (show g2≠g6 by omega)
 replace Qq3:=Qq3.cg Xg6 C (by rfl)
 have Xg6:=Y
 refine gl_nil (ge_then (gc_seq (gc_seq (gc_reg (t 6 (iI 0) (gl_nil (ge_then (gc_block (gc_loop (fun i=>n - i) (fun (i:Nat)=>[(0,pg g),(1,iU v),(4,pg g2),(5,pg g6),(6,iI (i:Int))]) (fun i w'=>i<=n/\Blk w' g [.slice ao n c] 30/\Ry w' b ao n c zz E/\Below w.heap.size w w'/\Blk w' g2 [zS,zS] 40/\∃ a k d_ a' k' d',Blk w' g6 [.slice a k d_,.slice a' k' d'] 40/\RQ w' a k d_ a' k' d' (ps (fun i=>(E i).o) E v i)) 0 ⟨Nat.zero_le _,X,YR,BB,Xg2,aq3,kq3,dq3,bq3,lq3,eq3,Xg6,Qq3⟩ (by kernel_rfl) ?_)))))))))
 clear X YR BB Xg2 Xg6 Qq3
 rintro i v8 ⟨hi,X,YR,BB,Xg2,aS,kS,dS,bS,lS,eS,Xg6,QS⟩
 refine gc_seq (gc_seq (gc_reg (t 8 (iI (i:Int)) (t 9 (pg g) (t 10 (pg g) (t 11 (pg g) (tl 12 (.slice ao n c) X 0 (t 13 (iI ((n:Nat):Int)) ?_))))))))
 by_cases c9:(i:Int) < ((n:Nat):Int)
 ·have hk_i:i < n:=by omega
  refine tq 14 (.bool (decide ((i:Int) < ((n:Nat):Int)))) (bT) (congrArg Value.bool (decide_eq_true c9)) (gl_nil (ge_then (gc_yes (gc_skip (ge_then (gc_seq (gc_block (gc_seq (gc_reg (t 17 (pg g) (t 18 (pg g) (t 19 (pg g) (tl 20 (.slice ao n c) X 0 (t 21 (iI (i:Int)) (tr 22 (pq b (i * 8)) (congr_v (by rw [Nat.zero_add]) (run_ixa 8 b 0 n c i hk_i YR.p0)) (t 23 (pq b (i * 8)) (tr 24 (iU (E i).v) (ldE1 YR hk_i 0 _ (by decide) rfl) (t 25 (iU v) ?_))))))))))))))))))
  by_cases c10:((E i).v:Int)=v
  ·refine tq 26 (.bool (((E i).v:Int) == v)) (bT) (congrArg Value.bool (beq_iff_eq.2 c10)) (gl_nil (ge_then (gc_fr [(0,pg g),(1,iU v),(4,pg g2),(5,pg g6),(6,iI (i:Int)),(8,iI (i:Int)),(9,pg g),(10,pg g),(11,pg g),(12,.slice ao n c),(13,iI ((n:Nat):Int)),(14,bT),(17,pg g),(18,pg g),(19,pg g),(20,.slice ao n c),(21,iI (i:Int)),(22,pq b (i * 8)),(23,pq b (i * 8)),(24,iU (E i).v),(25,iU v),(26,bT)] (gc_yes ?_))))
   replace X:=X.drew
   replace YR:=YR.drew
   replace BB:=BB.drew
   replace Xg2:=Xg2.drew
   replace Xg6:=Xg6.drew
   replace QS:=QS.drew
   refine gc_draw (fun w'=>Blk w' g6 [.slice aS kS dS,.slice bS lS eS] 40/\Blk w' g [.slice ao n c] 30/\Ry w' b ao n c zz E) (fun i=>decide (10<=i)) ⟨Xg6,X,YR⟩ ?_
   refine zlr 0 27 [.slice aS kS dS,.slice bS lS eS] (fun _ h=>h.1) 0 (zp 1 28 (pg g) (zp 2 29 (pg g) (zp 3 30 (pg g) (zl 4 31 (.slice ao n c) (fun _ h=>h.2.1) 0 (zp 5 32 (iI (i:Int)) (zp 6 33 (pq b (i * 8)) ?_ (hrun:=fun _=>congr_v (by rw [Nat.zero_add]) (run_ixa 8 b 0 n c i hk_i YR.p0))))))))
   refine zp 7 34 (pq b (i * 8 + 4)) (zr 8 35 (.agg #[.slice (E i).ov.1 (E i).ov.2.1 (E i).ov.2.2.1,.slice (E i).ov.2.2.2.1 (E i).ov.2.2.2.2.1 (E i).ov.2.2.2.2.2]) (fun _ h=>ldE2 h.2.2 hk_i 4 _ (by decide) rfl rfl) (zc 9 36 53 #[.agg #[.slice aS kS dS,.slice bS lS eS],.agg #[.slice (E i).ov.1 (E i).ov.2.1 (E i).ov.2.2.1,.slice (E i).ov.2.2.2.1 (E i).ov.2.2.2.2.1 (E i).ov.2.2.2.2.2]] (tpAdd (B:=2000000) (QS.v (ft_up (ps_ft (n:=i) (L:=L) fun j hj=>⟨hN j (by omega),hS j (by omega)⟩) (by have:=Nat.mul_le_mul (show i<=100 by omega) (show L + 1<=640001 by omega); omega))) ((YR.q i hk_i).2.v (ft_up (hF i hk_i).2 (by omega))) (by omega)) ?_))
   rintro _ v12 ⟨aq11,kq11,dq11,bq11,lq11,eq11,rfl,Qq11,B⟩
   replace X:=X.keep B
   replace YR:=YR.keep B
   replace BB:=joinB BB B
   replace Xg2:=Xg2.keep B
   replace Xg6:=Xg6.keep B
   replace QS:=QS.keep B
   refine ⟨_,rfl,⟨Xg6,X,YR⟩,?_⟩
   refine gz_late (ys 10 Xg6 0 (.agg #[.slice aq11 kq11 dq11,.slice bq11 lq11 eq11]) [.slice aq11 kq11 dq11,.slice bq11 lq11 eq11] [.slice aq11 kq11 dq11,.slice bq11 lq11 eq11] ?_)
   intro v13 Y C
   replace X:=X.chg C (show g≠g6 by omega)
   replace YR:=YR.cg Xg6 C (by rfl) (by decide)
   replace BB:=belowC BB C (by omega)
   replace Xg2:=Xg2.chg C (show g2≠g6 by omega)
   replace QS:=QS.cg Xg6 C (by rfl)
   replace Qq11:=Qq11.cg Xg6 C (by rfl)
   have Xg6:=Y
   exact gy_done (ge_bn (ge_then (gc_reg (t 15 (iI (i:Int)) (tq 16 (iI (IntKind.i64.wrap ((i:Int) + 1))) (iI ((i:Int) + 1)) (wi (by omega)) (t 6 (iI ((i:Int) + 1)) (gl_nil (ge_round (i + 1) (by omega) ⟨by omega,X,YR,BB,Xg2,aq11,kq11,dq11,bq11,lq11,eq11,Xg6,Qq11.is (by simp only [ps]; rw [if_pos c10])⟩ (by kernel_rfl)))))))))
  ·exact tq 26 (.bool (((E i).v:Int) == v)) (bF) (congrArg Value.bool (beq_eq_false_iff_ne.2 c10)) (gl_nil (ge_then (gc_fr [(0,pg g),(1,iU v),(4,pg g2),(5,pg g6),(6,iI (i:Int)),(8,iI (i:Int)),(9,pg g),(10,pg g),(11,pg g),(12,.slice ao n c),(13,iI ((n:Nat):Int)),(14,bT),(17,pg g),(18,pg g),(19,pg g),(20,.slice ao n c),(21,iI (i:Int)),(22,pq b (i * 8)),(23,pq b (i * 8)),(24,iU (E i).v),(25,iU v),(26,bF)] (gc_no (gc_skip (ge_bn (ge_then (gc_reg (t 15 (iI (i:Int)) (tq 16 (iI (IntKind.i64.wrap ((i:Int) + 1))) (iI ((i:Int) + 1)) (wi (by omega)) (t 6 (iI ((i:Int) + 1)) (gl_nil (ge_round (i + 1) (by omega) ⟨by omega,X,YR,BB,Xg2,aS,kS,dS,bS,lS,eS,Xg6,QS.is (by simp only [ps]; rw [if_neg c10])⟩ (by kernel_rfl))))))))))))))
 ·have hin:i=n:=by omega
  refine tq 14 (.bool (decide ((i:Int) < ((n:Nat):Int)))) (bF) (congrArg Value.bool (decide_eq_false c9)) (gl_nil (ge_then (gc_no (gc_exit (ge_tx (ge_tx (ge_bx (ge_then (gc_seq (gc_reg (tlr 37 [.slice aS kS dS,.slice bS lS eS] Xg6 0 (ts Xg2 0 (.agg #[.slice aS kS dS,.slice bS lS eS]) [.slice aS kS dS,.slice bS lS eS] [.slice aS kS dS,.slice bS lS eS] ?_))))))))))))
  intro v14 Y C
  replace X:=X.chg C (show g≠g2 by omega)
  replace YR:=YR.cg Xg2 C (by rfl) (by decide)
  replace BB:=belowC BB C (by omega)
  replace Xg6:=Xg6.chg C (show g6≠g2 by omega)
  replace QS:=QS.cg Xg2 C (by rfl)
  have Xg2:=Y
  refine gl_nil (ge_then (gc_ret (ge_ret (.agg #[.slice aS kS dS,.slice bS lS eS]) (rsc 4 (T:=40) (by kernel_rfl) (by kernel_rfl) (lr Xg2 0)) ?_)))
  exact ⟨aS,kS,dS,bS,lS,eS,rfl,hin▸QS,BB⟩
end Lg
end
end Go.Proofs.YtlbndpkdkdgggaaGreatDoor
