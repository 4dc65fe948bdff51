import Derived.Test.YtpoifdokmjhclaaGreatJyj
import Derived.Test.YtpoifdokmjhclaaGreatJyd
set_option maxRecDepth 100000
set_option maxHeartbeats 8000000
namespace Go.Proofs.YtpoifdokmjhclaaGreat
section
namespace Ky
open Go.RowKit Go.Lib Pg
attribute [local go_sem] Oper.semAt_some
theorem mk_eq {k a b n m0 m1:Int} (hf:frm k=(n,m0,m1)):mk k a b=[m0] ++ (if 8 < n then be 8 (tn k a) else []) ++ (if m1=0 then [] else [m1]) ++ (if 16 < n then be 8 b else []):=by
 unfold mk mkb;rw[hf]
theorem nV (k a b:Int):(mk k a b).length<=18:=by
 unfold mk;rw[List.length_append];have:=xa (frm k) (tn k a);split
 ·rw[ax];omega
 simp;omega
end Ky
end
section
namespace Rc
open Go.RowKit Go.Lib Pg
attribute [local go_sem] Oper.semAt_some
section
variable {G:Nat→Prop}{rb sb n cc:Nat}{f1 f2 f3:FuncId}{c:Value}{kd:Nat→Nat}{offs:List Nat}{w:World}
theorem aG{p:Prop}(h:p):Hid p:=h
theorem rD(w:World)(o:Obj):(w.alloc o).heap.size=w.heap.size+1:=by
 show (w.heap.push o).size=_
 simp
theorem Fh(w:World):BW w w.drew:=⟨rfl,rfl,rfl,Nat.le_refl _,λ_ _=>rfl⟩
structure HC(σ:Type)(Inv:σ->World->Prop)(G:Nat->Prop)(rb:Nat)(f1 f2 f3:FuncId)(c:Value)(nx:Nat->Nat->σ->σ)(kd:Nat->Nat)(ok:σ->Prop):Prop where
 oks:∀ k o s,ok (nx k o s)->ok s
 keep:∀ s w w',Inv s w->BW w w'->Inv s w'
 old:∀ s w b,Inv s w->G b->b < w.heap.size
 e1:∀ args w,(callFunc f1 args).run Tryz.prog w=.ok (.enter f1 args) w
 e2:∀ args w,(callFunc f2 args).run Tryz.prog w=.ok (.enter f2 args) w
 e3:∀ args w,(callFunc f3 args).run Tryz.prog w=.ok (.enter f3 args) w
 u:∀ s w o,Inv s w->ok (nx 0 o s)->kd o=0->Calls Tryz.prog f1 #[.pointer (some ⟨rb,o,none⟩),c] w λe w'=>e=.returned (.tuple #[])/\Inv (nx 0 o s) w'/\Chg G w w'
 t:∀ s w o,Inv s w->ok (nx 1 o s)->kd o=1->Calls Tryz.prog f2 #[.pointer (some ⟨rb,o,none⟩),c] w λe w'=>e=.returned (.tuple #[])/\Inv (nx 1 o s) w'/\Chg G w w'
 d:∀ s w o,Inv s w->ok (nx 2 o s)->kd o=2->Calls Tryz.prog f3 #[.pointer (some ⟨rb,o,none⟩),c] w λe w'=>e=.returned (.tuple #[])/\Inv (nx 2 o s) w'/\Chg G w w'
theorem HC.okf{σ:Type}{Inv:σ->World->Prop}{G:Nat->Prop}{nx:Nat->Nat->σ->σ}{kd:Nat->Nat}{ok:σ->Prop}(H:HC σ Inv G rb f1 f2 f3 c nx kd ok)(k:Nat)(l:List Nat):∀ s,ok (l.foldl (λs o=>nx k o s) s)->ok s:=by
 induction l with
 | nil=>exact λ_ h=>h
 | cons o l ih=>exact λs h=>H.oks _ _ _ (ih _ h)
structure qM(σ:Type)(Inv:σ->World->Prop)(G:Nat->Prop)(s:σ)(w:World)(e:Ending)(w':World):Prop where
 ret:e=.returned (.tuple #[])
 inv:Inv s w'
 chg:Chg G w w'
theorem sM{σ:Type}{Inv:σ→World→Prop}{nx:Nat→Nat→σ→σ}{ok:σ→Prop}{s:σ}(H:HC σ Inv G rb f1 f2 f3 c nx kd ok)(q:Inv s w)(hb:Blk w sb (offs.map λo=>.pointer (some ⟨rb,o,none⟩)) 111)(A:¬ G sb)(hk:∀ o ∈ offs,kd o=0)(hok:ok (offs.foldl (λs o=>nx 0 o s) s))(hn:offs.length=n)(L:n≤1000) :
    Calls Tryz.prog 116 #[.agg #[.func (.func f1) #[] #[c],.func (.func f2) #[] #[c],.func (.func f3) #[] #[c]],.slice (some ⟨sb,0,none⟩) n cc] w (qM σ Inv G (offs.foldl (λs o=>nx 0 o s) s) w):=by
  have al:=aa w (.cells #[.func (.func f1) #[] #[c],.func (.func f2) #[] #[c],.func (.func f3) #[] #[c]] 216);have x:=ay w [.func (.func f1) #[] #[c],.func (.func f2) #[] #[c],.func (.func f3) #[] #[c]] 216;have j:=aG H;have M:=aG q;have F:=aG hb;have K:=aG hk;have z:=aG hn;have I:=aG hok;have t:=aG al;have J:=aG x
  have b:¬ G w.heap.size:=λh=>by have:=H.old s w _ q h;omega
  have D:=aG A;have p:=aG b;clear H q hb hk hn al x A b hok;go_enter Tryz.func116,Tryz.ntmps116;go_wp2_with fail;go_loopw [8] (λr wr=>∃ k:Nat,k≤n∧r=.int .i64 k∧Hid (Inv ((offs.take k).foldl (λs o=>nx 0 o s) s) wr)∧Hid (Chg G w wr)∧Hid (Blk wr w.heap.size [.func (.func f1) #[] #[c],.func (.func f2) #[] #[c],.func (.func f3) #[] #[c]] 216)) (λr _=>n - (intOf r).toNat)
  case atStart=>exact⟨0,Nat.zero_le _,rfl,j.out.keep _ _ _ M.out t.out,Chg.of t.out,J.out⟩
  case round =>
    obtain⟨k,hk,rfl,H1,l,y⟩:= hrel;by_cases E:k < n
    · obtain⟨o,g⟩:∃ o,Hid (offs[k]?=some o):=⟨offs[k]'(by have:=z.out;omega),List.getElem?_eq_getElem _⟩
      have f:=F.out.chg l.out D.out
      have c1:wr.cell? ⟨sb,k,none⟩=some (.pointer (some ⟨rb,o,none⟩)):=f.cell (i:=k) (by rw[List.getElem?_map,g.out];rfl);have c2:=y.out.cell (i:=0) rfl
      have m:(k:Int) < n:=by omega
      have d:ok (nx 0 o ((offs.take k).foldl (λs o=>nx 0 o s) s)):=by
        have h:=I.out;rw[← List.take_append_drop (k+1) offs,List.foldl_append] at h;have v:=j.out.okf 0 _ _ h;rw[List.take_add_one,g.out,List.foldl_append] at v;exact v
      have U:=j.out.u _ wr o H1.out d (K.out o (List.mem_of_getElem? g.out));clear f d;go_wp2_with fail;rw[j.out.e1];refine U.mono ?_
      rintro O N ⟨rfl,C,B⟩;go_wp2_with fail;go_roundw
      case rel=>exact⟨k+1,by omega,by go_num,by show Inv _ _;rw[List.take_add_one,g.out,List.foldl_append];exact C,l.out.trans B (λ_ _ h=>h),y.out.chg B p.out⟩
      case measure=>simp[intOf];omega
    · obtain rfl : k = n := by omega
      have m:¬ ((k:Int) < k):=by omega
      go_wp2;go_end0;refine⟨rfl,?_,l.out⟩;have h:=H1.out;rw[List.take_of_length_le (by have:=z.out;omega)] at h;exact h
theorem pL{σ:Type}{Inv:σ→World→Prop}{nx:Nat→Nat→σ→σ}{ok:σ→Prop}{s:σ}(H:HC σ Inv G rb f1 f2 f3 c nx kd ok)(r:Inv s w)(hb:Blk w sb (offs.map λo=>.pointer (some ⟨rb,o,none⟩)) 212)(A:¬ G sb)(hk:∀ o ∈ offs,kd o=2)(hok:ok (offs.foldl (λs o=>nx 2 o s) s))(hn:offs.length=n)(L:n≤1000) :
    Calls Tryz.prog 120 #[.agg #[.func (.func f1) #[] #[c],.func (.func f2) #[] #[c],.func (.func f3) #[] #[c]],.slice (some ⟨sb,0,none⟩) n cc] w (qM σ Inv G (offs.foldl (λs o=>nx 2 o s) s) w):=by
  have al:=aa w (.cells #[.func (.func f1) #[] #[c],.func (.func f2) #[] #[c],.func (.func f3) #[] #[c]] 216);have x:=ay w [.func (.func f1) #[] #[c],.func (.func f2) #[] #[c],.func (.func f3) #[] #[c]] 216;have l:=aG H;have M:=aG r;have F:=aG hb;have K:=aG hk;have z:=aG hn;have I:=aG hok;have u:=aG al;have J:=aG x
  have b:¬ G w.heap.size:=λh=>by have:=H.old s w _ r h;omega
  have D:=aG A;have q:=aG b;clear H r hb hk hn al x A b hok;go_enter Tryz.func120,Tryz.ntmps120;go_wp2_with fail;go_loopw [8] (λt wr=>∃ k:Nat,k≤n∧t=.int .i64 k∧Hid (Inv ((offs.take k).foldl (λs o=>nx 2 o s) s) wr)∧Hid (Chg G w wr)∧Hid (Blk wr w.heap.size [.func (.func f1) #[] #[c],.func (.func f2) #[] #[c],.func (.func f3) #[] #[c]] 216)) (λt _=>n - (intOf t).toNat)
  case atStart=>exact⟨0,Nat.zero_le _,rfl,l.out.keep _ _ _ M.out u.out,Chg.of u.out,J.out⟩
  case round =>
    obtain⟨k,hk,rfl,H1,m,y⟩:= hrel;by_cases E:k < n
    · obtain⟨o,j⟩:∃ o,Hid (offs[k]?=some o):=⟨offs[k]'(by have:=z.out;omega),List.getElem?_eq_getElem _⟩
      have g:=F.out.chg m.out D.out
      have c1:wr.cell? ⟨sb,k,none⟩=some (.pointer (some ⟨rb,o,none⟩)):=g.cell (i:=k) (by rw[List.getElem?_map,j.out];rfl);have c2:=y.out.cell (i:=2) rfl
      have p:(k:Int) < n:=by omega
      have f:ok (nx 2 o ((offs.take k).foldl (λs o=>nx 2 o s) s)):=by
        have h:=I.out;rw[← List.take_append_drop (k+1) offs,List.foldl_append] at h;have v:=l.out.okf 2 _ _ h;rw[List.take_add_one,j.out,List.foldl_append] at v;exact v
      have U:=l.out.d _ wr o H1.out f (K.out o (List.mem_of_getElem? j.out));clear g f;go_wp2_with fail;rw[l.out.e3];refine U.mono ?_
      rintro O N ⟨rfl,C,B⟩;go_wp2_with fail;go_roundw
      case rel=>exact⟨k+1,by omega,by go_num,by show Inv _ _;rw[List.take_add_one,j.out,List.foldl_append];exact C,m.out.trans B (λ_ _ h=>h),y.out.chg B q.out⟩
      case measure=>simp[intOf];omega
    · obtain rfl : k = n := by omega
      have p:¬ ((k:Int) < k):=by omega
      go_wp2;go_end0;refine⟨rfl,?_,m.out⟩;have h:=H1.out;rw[List.take_of_length_le (by have:=z.out;omega)] at h;exact h
end
end Rc
end
section
namespace Rc
open Go.RowKit Go.Lib Pg Gl
attribute [local go_sem] Oper.semAt_some
section
variable {G:Nat->Prop}{c:Value}{kd:Nat->Nat}{ev:Operand->Value}{w:World}{f:FuncId}
def thr{σ:Type}(nx:Nat->Nat->σ->σ)(l:List (Nat × Nat))(s:σ):σ:=l.foldl (λs p=>nx p.1 p.2 s) s
theorem HC.okt{σ:Type}{Inv:σ->World->Prop}{rb:Nat}{f1 f2 f3:FuncId}{nx:Nat->Nat->σ->σ}{ok:σ->Prop}(H:HC σ Inv G rb f1 f2 f3 c nx kd ok)(l:List (Nat × Nat)):∀ s,ok (thr nx l s)->ok s:=by
 induction l with
 | nil=>exact λ_ h=>h
 | cons o l ih=>exact λs h=>H.oks _ _ _ (ih _ h)
abbrev hq(f1 f2 f3:FuncId)(c:Value):List Value:=[.func (.func f1) #[] #[c],.func (.func f2) #[] #[c],.func (.func f3) #[] #[c]]
theorem vK{o:Oper}{x y:Operand}{v:Value}{T:Array TypeId}(ho:o.op=.call { callee:=.value x,args:=#[y],argTypes:=T })(hx:ev x=.func (.func f) #[] #[c])(hy:ev y=v)(he:∀ args w,(callFunc f args).run Tryz.prog w=.ok (.enter f args) w):(execOp ev o).run Tryz.prog w=.ok (.enter f #[v,c]) w:=by
 have b:=he #[v,c] w;simp only[execOp,ho];go_simp
structure Oi{σ:Type}(Inv:σ->World->Prop)(G:Nat->Prop)(rb:Nat)(f1 f2 f3:FuncId)(c:Value)(nx:Nat->Nat->σ->σ)(kd:Nat->Nat)(ok:σ->Prop)(w0:World)(gb:Nat)(R:List (Nat × Nat))(s:σ)(w:World):Prop where
 H:HC σ Inv G rb f1 f2 f3 c nx kd ok
 I:Inv s w
 C:Chg G w0 w
 X:Blk w gb (hq f1 f2 f3 c) 216
 ng:¬ G gb
 hk:∀ p∈R,kd p.2=p.1
 hok:ok (thr nx R s)
end
section
variable {σ:Type} {Inv:σ->World->Prop} {G:Nat->Prop} {rb:Nat} {f1 f2 f3:FuncId} {c:Value} {nx:Nat->Nat->σ->σ} {kd:Nat->Nat} {ok:σ->Prop} {s:σ} {w0 w v:World} {gb:Nat} {R:List (Nat × Nat)}
section
variable {k n sb:Nat}
theorem Oi.start(H:HC σ Inv G rb f1 f2 f3 c nx kd ok)(a:Inv s w)(hk:∀ p∈R,kd p.2=p.1)(hok:ok (thr nx R s))(X:Blk v gb (hq f1 f2 f3 c) 216)(b:w.heap.size<=gb)(B:BW w v):Oi Inv G rb f1 f2 f3 c nx kd ok w gb R s v :=
 ⟨H,H.keep _ _ _ a B,Chg.of B,X,λh=>by have:=H.old s w _ a h;omega,hk,hok⟩
theorem Oi.below(O:Oi Inv G rb f1 f2 f3 c nx kd ok w0 gb R s w)(B:BW w v):Oi Inv G rb f1 f2 f3 c nx kd ok w0 gb R s v :=
 ⟨O.H,O.H.keep _ _ _ O.I B,O.C.trans (Chg.of (F:=G) B) (λ_ _ h=>h),O.X.keep B,O.ng,O.hk,O.hok⟩
theorem Oi.drew(O:Oi Inv G rb f1 f2 f3 c nx kd ok w0 gb R s w):Oi Inv G rb f1 f2 f3 c nx kd ok w0 gb R s w.drew:=O.below (Fh w)
theorem Oi.new(O:Oi Inv G rb f1 f2 f3 c nx kd ok w0 gb R s w){g:Nat}(a:w.heap.size<=g)(B:BW w v):Oi Inv G rb f1 f2 f3 c nx kd ok w0 gb R s v/\¬ G g :=
 ⟨O.below B,λh=>by have:=O.H.old s w _ O.I h;omega⟩
theorem Dm(offs:List Nat)(a:R.take offs.length=offs.map λo=>(k,o)):thr nx R s=thr nx (R.drop offs.length) (offs.foldl (λs o=>nx k o s) s):=by
 conv=>lhs;rw[<- List.take_append_drop offs.length R,a]
 simp only[thr,List.foldl_append,List.foldl_map]
theorem Oi.next(O:Oi Inv G rb f1 f2 f3 c nx kd ok w0 gb R s w)(offs:List Nat)(a:R.take offs.length=offs.map λo=>(k,o)):(∀ o∈offs,kd o=k)/\ok (offs.foldl (λs o=>nx k o s) s)/\(Inv (offs.foldl (λs o=>nx k o s) s) v->Chg G w v->Oi Inv G rb f1 f2 f3 c nx kd ok w0 gb (R.drop offs.length) (offs.foldl (λs o=>nx k o s) s) v):=by
 have hok:=O.hok;rw[Dm offs a] at hok;exact⟨λo d=>O.hk (k,o) (List.mem_of_mem_take (a▸List.mem_map.2 ⟨o,d,rfl⟩)),O.H.okt _ _ hok,λI C=>⟨O.H,I,O.C.trans C (λ_ _ h=>h),O.X.chg C O.ng,O.ng,λp b=>O.hk p (List.mem_of_mem_drop b),hok⟩⟩
theorem Oi.tru(o:Nat)(O:Oi Inv G rb f1 f2 f3 c nx kd ok w0 gb R s w)(a:R.take 1=[(1,o)]:=by rfl):CP f2 #[pq rb o,c] w λe w'=>e=.returned (.tuple #[])/\Oi Inv G rb f1 f2 f3 c nx kd ok w0 gb (R.drop 1) (nx 1 o s) w':=by
 have d:=(O.next (v:=w) [o] a).1;have b:=(O.next (v:=w) [o] a).2.1;refine(O.H.t s w o O.I b (d o (List.mem_singleton.2 rfl))).mono ?_
 rintro e w' ⟨rfl,I,C⟩;exact⟨rfl,(O.next [o] a).2.2 I C⟩
theorem Oi.numbers(offs:List Nat)(O:Oi Inv G rb f1 f2 f3 c nx kd ok w0 gb R s w)(N:¬ G sb)(X:Blk w sb (offs.map λo=>.pointer (some ⟨rb,o,none⟩)) 111)(a:R.take offs.length=offs.map (λo=>(0,o)):=by rfl)(hn:offs.length=n:=by rfl)(b:n<=1000:=by decide):CP 116 #[.agg (hq f1 f2 f3 c).toArray,sg n sb] w λe w'=>e=.returned (.tuple #[])/\Oi Inv G rb f1 f2 f3 c nx kd ok w0 gb (R.drop offs.length) (offs.foldl (λs o=>nx 0 o s) s) w':=by
 refine(sM O.H O.I X N (O.next (v:=w) offs a).1 (O.next (v:=w) offs a).2.1 hn b).mono ?_
 rintro e w' ⟨rfl,I,C⟩;exact⟨rfl,(O.next offs a).2.2 I C⟩
theorem Oi.gz(offs:List Nat)(O:Oi Inv G rb f1 f2 f3 c nx kd ok w0 gb R s w)(N:¬ G sb)(X:Blk w sb (offs.map λo=>.pointer (some ⟨rb,o,none⟩)) 212)(a:R.take offs.length=offs.map (λo=>(2,o)):=by rfl)(hn:offs.length=n:=by rfl)(b:n<=1000:=by decide):CP 120 #[.agg (hq f1 f2 f3 c).toArray,sg n sb] w λe w'=>e=.returned (.tuple #[])/\Oi Inv G rb f1 f2 f3 c nx kd ok w0 gb (R.drop offs.length) (offs.foldl (λs o=>nx 2 o s) s) w':=by
 refine(pL O.H O.I X N (O.next (v:=w) offs a).1 (O.next (v:=w) offs a).2.1 hn b).mono ?_
 rintro e w' ⟨rfl,I,C⟩;exact⟨rfl,(O.next offs a).2.2 I C⟩
theorem kA(H:HC σ Inv G rb f1 f2 f3 c nx kd ok)(i:Inv s w)(hok:ok (thr nx [(0,0),(0,1),(0,2),(0,3),(0,4),(0,5),(0,6),(0,7),(0,8),(0,9)] s))(b:∀ p∈[(0,0),(0,1),(0,2),(0,3),(0,4),(0,5),(0,6),(0,7),(0,8),(0,9)],kd p.2=p.1:=by decide):CP 128 #[pg rb,.agg #[.func (.func f1) #[] #[c],.func (.func f2) #[] #[c],.func (.func f3) #[] #[c]]] w (qM σ Inv G (thr nx [(0,0),(0,1),(0,2),(0,3),(0,4),(0,5),(0,6),(0,7),(0,8),(0,9)] s) w):=by
 refine af (n:=37) Tryz.func128 rfl ?_
 refine sr<|ta 3 (hq f1 f2 f3 c) 216 (pg) ?_
 intro v1 k e d B;have O:=Oi.start H i b hok e d B;refine nt ?_
 have O:=O.drew;refine gd1 O.X ?_
 refine zlr 0 4 (hq f1 f2 f3 c) (λ_ h=>h) 0<|z 1 5 (pg rb)<|z 2 6 (pg rb)<|z 3 7 (pg rb)<|z 4 8 (pg rb)<|z 5 9 (pg rb)<|z 6 10 (pq rb 1)<|z 7 11 (pg rb)<|z 8 12 (pg rb)<|z 9 13 (pq rb 2)<|z 10 14 (pg rb)<|z 11 15 (pg rb)<|z 12 16 (pq rb 3)<|z 13 17 (pg rb)<|z 14 18 (pg rb)<|z 15 19 (pq rb 4)<|z 16 20 (pg rb)<|z 17 21 (pg rb)<|z 18 22 (pq rb 5)<|z 19 23 (pg rb)<|z 20 24 (pg rb)<|z 21 25 (pq rb 6)<|z 22 26 (pg rb)<|z 23 27 (pg rb)<|z 24 28 (pq rb 7)<|z 25 29 (pg rb)<|z 26 30 (pg rb)<|z 27 31 (pq rb 8)<|z 28 32 (pg rb)<|z 29 33 (pg rb)<|z 30 34 (pq rb 9)<|za 31 35 [pg rb,pq rb 1,pq rb 2,pq rb 3,pq rb 4,pq rb 5,pq rb 6,pq rb 7,pq rb 8,pq rb 9] 111 (sg 10) ?_
 intro j g f a B;obtain⟨O,N⟩:=O.new a B;refine⟨O.X,zc 32 36 116 #[.agg (hq f1 f2 f3 c).toArray,sg 10 g] (O.numbers [0,1,2,3,4,5,6,7,8,9] N f) ?_⟩;rintro _ l ⟨rfl,O⟩;refine⟨_,rfl,O.X,aS<|bh (.tuple #[]) (rs0) ?_⟩;exact⟨rfl,O.I,O.C⟩
theorem tu(H:HC σ Inv G rb f1 f2 f3 c nx kd ok)(i:Inv s w)(b:∀ p∈[(0,0),(0,1)],kd p.2=p.1)(hok:ok (thr nx [(0,0),(0,1)] s)):CP 130 #[pg rb,.agg #[.func (.func f1) #[] #[c],.func (.func f2) #[] #[c],.func (.func f3) #[] #[c]]] w (qM σ Inv G (thr nx [(0,0),(0,1)] s) w):=by
 refine af (n:=13) Tryz.func130 rfl ?_
 refine sr<|ta 3 (hq f1 f2 f3 c) 216 (pg) ?_
 intro v1 k e d B;have O:=Oi.start H i b hok e d B;refine nt ?_
 have O:=O.drew;refine gd1 O.X ?_
 refine zlr 0 4 (hq f1 f2 f3 c) (λ_ h=>h) 0<|z 1 5 (pg rb)<|z 2 6 (pg rb)<|z 3 7 (pg rb)<|z 4 8 (pg rb)<|z 5 9 (pg rb)<|z 6 10 (pq rb 1)<|za 7 11 [pg rb,pq rb 1] 111 (sg 2) ?_
 intro j g f a B;obtain⟨O,N⟩:=O.new a B;refine⟨O.X,zc 8 12 116 #[.agg (hq f1 f2 f3 c).toArray,sg 2 g] (O.numbers [0,1] N f) ?_⟩;rintro _ l ⟨rfl,O⟩;refine⟨_,rfl,O.X,aS<|bh (.tuple #[]) (rs0) ?_⟩;exact⟨rfl,O.I,O.C⟩
theorem nR(H:HC σ Inv G rb f1 f2 f3 c nx kd ok)(h:Inv s w)(hok:ok (thr nx [(2,0)] s))(b:∀ p∈[(2,0)],kd p.2=p.1:=by decide):CP 363 #[pg rb,.agg #[.func (.func f1) #[] #[c],.func (.func f2) #[] #[c],.func (.func f3) #[] #[c]]] w (qM σ Inv G (thr nx [(2,0)] s) w):=by
 refine af (n:=8) Tryz.func363 rfl ?_
 refine sr<|ta 3 (hq f1 f2 f3 c) 216 (pg) ?_
 intro v1 j e d B;have O:=Oi.start H h b hok e d B;refine nt<|aN<|tlr 4 (hq f1 f2 f3 c) O.X 0<|tz 1<|ta 6 [pg rb] 212 (sg 1) ?_
 intro i g f a B;obtain⟨O,N⟩:=O.new a B;refine tc 7 120 #[.agg (hq f1 f2 f3 c).toArray,sg 1 g] (O.gz [0] N f) ?_
 rintro _ k ⟨rfl,O⟩;refine⟨_,rfl,aO<|bh (.tuple #[]) (rs0) ?_⟩;exact⟨rfl,O.I,O.C⟩
theorem jc(H:HC σ Inv G rb f1 f2 f3 c nx kd ok)(i:Inv s w)(hok:ok (thr nx [(0,0),(0,1)] s))(b:∀ p∈[(0,0),(0,1)],kd p.2=p.1:=by decide):CP 74 #[pg rb,.agg #[.func (.func f1) #[] #[c],.func (.func f2) #[] #[c],.func (.func f3) #[] #[c]]] w (qM σ Inv G (thr nx [(0,0),(0,1)] s) w):=by
 refine af (n:=13) Tryz.func74 rfl ?_
 refine sr<|ta 3 (hq f1 f2 f3 c) 216 (pg) ?_
 intro v1 k e d B;have O:=Oi.start H i b hok e d B;refine nt ?_
 have O:=O.drew;refine gd1 O.X ?_
 refine zlr 0 4 (hq f1 f2 f3 c) (λ_ h=>h) 0<|z 1 5 (pg rb)<|z 2 6 (pg rb)<|z 3 7 (pg rb)<|z 4 8 (pg rb)<|z 5 9 (pg rb)<|z 6 10 (pq rb 1)<|za 7 11 [pg rb,pq rb 1] 111 (sg 2) ?_
 intro j g f a B;obtain⟨O,N⟩:=O.new a B;refine⟨O.X,zc 8 12 116 #[.agg (hq f1 f2 f3 c).toArray,sg 2 g] (O.numbers [0,1] N f) ?_⟩;rintro _ l ⟨rfl,O⟩;refine⟨_,rfl,O.X,aS<|bh (.tuple #[]) (rs0) ?_⟩;exact⟨rfl,O.I,O.C⟩
theorem o6(H:HC σ Inv G rb f1 f2 f3 c nx kd ok)(J:Inv s w)(hok:ok (thr nx [(0,0),(0,1),(2,2),(1,3),(0,4),(1,5),(0,6),(2,7),(2,8),(2,9)] s))(o:∀ p∈[(0,0),(0,1),(2,2),(1,3),(0,4),(1,5),(0,6),(2,7),(2,8),(2,9)],kd p.2=p.1:=by decide):CP 77 #[pg rb,.agg #[.func (.func f1) #[] #[c],.func (.func f2) #[] #[c],.func (.func f3) #[] #[c]]] w (qM σ Inv G (thr nx [(0,0),(0,1),(2,2),(1,3),(0,4),(1,5),(0,6),(2,7),(2,8),(2,9)] s) w):=by
 refine af (n:=55) Tryz.func77 rfl ?_
 refine sr<|ta 3 (hq f1 f2 f3 c) 216 (pg) ?_
 intro v1 f v u B;have O:=Oi.start H J o hok v u B;refine nt<|ag ?_
 have O:=O.drew;refine gd1 O.X ?_
 refine zlr 0 4 (hq f1 f2 f3 c) (λ_ h=>h) 0<|z 1 5 (pg rb)<|z 2 6 (pg rb)<|z 3 7 (pg rb)<|z 4 8 (pg rb)<|z 5 9 (pg rb)<|z 6 10 (pq rb 1)<|za 7 11 [pg rb,pq rb 1] 111 (sg 2) ?_
 intro Q A q r B;obtain⟨O,N⟩:=O.new r B;refine⟨O.X,zc 8 12 116 #[.agg (hq f1 f2 f3 c).toArray,sg 2 A] (O.numbers [0,1] N q) ?_⟩;rintro _ R ⟨rfl,O⟩;refine⟨_,rfl,O.X,aS<|aj<|aA [(0,pg rb),(3,pg f)]<|ag ?_⟩;have O:=O.drew;refine gd1 O.X ?_
 refine zlr 0 13 (hq f1 f2 f3 c) (λ_ h=>h) 0<|z 1 14 (pg rb)<|z 2 15 (pg rb)<|z 3 16 (pq rb 2)<|za 4 17 [pq rb 2] 212 (sg 1) ?_
 intro v6 y t j B;obtain⟨O,N⟩:=O.new j B;refine⟨O.X,zc 5 18 120 #[.agg (hq f1 f2 f3 c).toArray,sg 1 y] (O.gz [2] N t) ?_⟩;rintro _ P ⟨rfl,O⟩;refine⟨_,rfl,O.X,aS<|aj<|ag ?_⟩;have O:=O.drew;refine gd1 O.X ?_
 refine z 0 19 (pq f 1)<|zl 1 20 (.func (.func f2) #[] #[c]) (λ_ h=>h) 1<|z 2 21 (pg rb)<|z 3 22 (pg rb)<|z 4 23 (pq rb 3)<|zc 5 24 f2 #[pq rb 3,c] (O.tru 3) ?_ (hrun:=vK rfl (by kernel_rfl) (by kernel_rfl) O.H.e2)
 rintro _ M ⟨rfl,O⟩;refine⟨_,rfl,O.X,aS<|aj<|aA [(0,pg rb),(3,pg f)]<|ag ?_⟩;have O:=O.drew;refine gd1 O.X ?_
 refine zlr 0 25 (hq f1 f2 f3 c) (λ_ h=>h) 0<|z 1 26 (pg rb)<|z 2 27 (pg rb)<|z 3 28 (pq rb 4)<|za 4 29 [pq rb 4] 111 (sg 1) ?_
 intro v10 k g b B;obtain⟨O,N⟩:=O.new b B;refine⟨O.X,zc 5 30 116 #[.agg (hq f1 f2 f3 c).toArray,sg 1 k] (O.numbers [4] N g) ?_⟩;rintro _ F ⟨rfl,O⟩;refine⟨_,rfl,O.X,aS<|aj<|ag ?_⟩;have O:=O.drew;refine gd1 O.X ?_
 refine z 0 31 (pq f 1)<|zl 1 32 (.func (.func f2) #[] #[c]) (λ_ h=>h) 1<|z 2 33 (pg rb)<|z 3 34 (pg rb)<|z 4 35 (pq rb 5)<|zc 5 36 f2 #[pq rb 5,c] (O.tru 5) ?_ (hrun:=vK rfl (by kernel_rfl) (by kernel_rfl) O.H.e2)
 rintro _ x ⟨rfl,O⟩;refine⟨_,rfl,O.X,aS<|aj<|aA [(0,pg rb),(3,pg f)]<|ag ?_⟩;have O:=O.drew;refine gd1 O.X ?_
 refine zlr 0 37 (hq f1 f2 f3 c) (λ_ h=>h) 0<|z 1 38 (pg rb)<|z 2 39 (pg rb)<|z 3 40 (pq rb 6)<|za 4 41 [pq rb 6] 111 (sg 1) ?_
 intro E l i e B;obtain⟨O,N⟩:=O.new e B;refine⟨O.X,zc 5 42 116 #[.agg (hq f1 f2 f3 c).toArray,sg 1 l] (O.numbers [6] N i) ?_⟩;rintro _ D ⟨rfl,O⟩;refine⟨_,rfl,O.X,aS<|aj ?_⟩;have O:=O.drew;refine gd1 O.X ?_
 refine zlr 0 43 (hq f1 f2 f3 c) (λ_ h=>h) 0<|z 1 44 (pg rb)<|z 2 45 (pg rb)<|z 3 46 (pq rb 7)<|z 4 47 (pg rb)<|z 5 48 (pg rb)<|z 6 49 (pq rb 8)<|z 7 50 (pg rb)<|z 8 51 (pg rb)<|z 9 52 (pq rb 9)<|za 10 53 [pq rb 7,pq rb 8,pq rb 9] 212 (sg 3) ?_
 intro L m a d B;obtain⟨O,N⟩:=O.new d B;refine⟨O.X,zc 11 54 120 #[.agg (hq f1 f2 f3 c).toArray,sg 3 m] (O.gz [7,8,9] N a) ?_⟩;rintro _ K ⟨rfl,O⟩;refine⟨_,rfl,O.X,aS<|bh (.tuple #[]) (rs0) ?_⟩;exact⟨rfl,O.I,O.C⟩
theorem lB(H:HC σ Inv G rb f1 f2 f3 c nx kd ok)(r:Inv s w)(e:∀ p∈[(2,0),(0,1),(2,2)],kd p.2=p.1)(hok:ok (thr nx [(2,0),(0,1),(2,2)] s)):CP 341 #[pg rb,.agg #[.func (.func f1) #[] #[c],.func (.func f2) #[] #[c],.func (.func f3) #[] #[c]]] w (qM σ Inv G (thr nx [(2,0),(0,1),(2,2)] s) w):=by
 refine af (n:=22) Tryz.func341 rfl ?_
 refine sr<|ta 3 (hq f1 f2 f3 c) 216 (pg) ?_
 intro v1 q k j B;have O:=Oi.start H r e hok k j B;refine nt<|ag ?_
 have O:=O.drew;refine gd1 O.X ?_
 refine zlr 0 4 (hq f1 f2 f3 c) (λ_ h=>h) 0<|z 1 5 (pg rb)<|z 2 6 (pg rb)<|z 3 7 (pg rb)<|za 4 8 [pg rb] 212 (sg 1) ?_
 intro v o f g B;obtain⟨O,N⟩:=O.new g B;refine⟨O.X,zc 5 9 120 #[.agg (hq f1 f2 f3 c).toArray,sg 1 o] (O.gz [0] N f) ?_⟩;rintro _ x ⟨rfl,O⟩;refine⟨_,rfl,O.X,aS<|aj<|ag ?_⟩;have O:=O.drew;refine gd1 O.X ?_
 refine zlr 0 10 (hq f1 f2 f3 c) (λ_ h=>h) 0<|z 1 11 (pg rb)<|z 2 12 (pg rb)<|z 3 13 (pq rb 1)<|za 4 14 [pq rb 1] 111 (sg 1) ?_
 intro v6 m i d B;obtain⟨O,N⟩:=O.new d B;refine⟨O.X,zc 5 15 116 #[.agg (hq f1 f2 f3 c).toArray,sg 1 m] (O.numbers [1] N i) ?_⟩;rintro _ u ⟨rfl,O⟩;refine⟨_,rfl,O.X,aS<|aj<|aA [(0,pg rb),(3,pg q)] ?_⟩;have O:=O.drew;refine gd1 O.X ?_
 refine zlr 0 16 (hq f1 f2 f3 c) (λ_ h=>h) 0<|z 1 17 (pg rb)<|z 2 18 (pg rb)<|z 3 19 (pq rb 2)<|za 4 20 [pq rb 2] 212 (sg 1) ?_
 intro t l a b B;obtain⟨O,N⟩:=O.new b B;refine⟨O.X,zc 5 21 120 #[.agg (hq f1 f2 f3 c).toArray,sg 1 l] (O.gz [2] N a) ?_⟩;rintro _ v11 ⟨rfl,O⟩;refine⟨_,rfl,O.X,aS<|bh (.tuple #[]) (rs0) ?_⟩;exact⟨rfl,O.I,O.C⟩
theorem iV(H:HC σ Inv G rb f1 f2 f3 c nx kd ok)(l:Inv s w)(hok:ok (thr nx [(2,0),(0,1)] s))(e:∀ p∈[(2,0),(0,1)],kd p.2=p.1:=by decide):CP 263 #[pg rb,.agg #[.func (.func f1) #[] #[c],.func (.func f2) #[] #[c],.func (.func f3) #[] #[c]]] w (qM σ Inv G (thr nx [(2,0),(0,1)] s) w):=by
 refine af (n:=16) Tryz.func263 rfl ?_
 refine sr<|ta 3 (hq f1 f2 f3 c) 216 (pg) ?_
 intro v1 o g f B;have O:=Oi.start H l e hok g f B;refine nt<|ag ?_
 have O:=O.drew;refine gd1 O.X ?_
 refine zlr 0 4 (hq f1 f2 f3 c) (λ_ h=>h) 0<|z 1 5 (pg rb)<|z 2 6 (pg rb)<|z 3 7 (pg rb)<|za 4 8 [pg rb] 212 (sg 1) ?_
 intro m k i b B;obtain⟨O,N⟩:=O.new b B;refine⟨O.X,zc 5 9 120 #[.agg (hq f1 f2 f3 c).toArray,sg 1 k] (O.gz [0] N i) ?_⟩;rintro _ r ⟨rfl,O⟩;refine⟨_,rfl,O.X,aS<|aj ?_⟩;have O:=O.drew;refine gd1 O.X ?_
 refine zlr 0 10 (hq f1 f2 f3 c) (λ_ h=>h) 0<|z 1 11 (pg rb)<|z 2 12 (pg rb)<|z 3 13 (pq rb 1)<|za 4 14 [pq rb 1] 111 (sg 1) ?_
 intro v6 j d a B;obtain⟨O,N⟩:=O.new a B;refine⟨O.X,zc 5 15 116 #[.agg (hq f1 f2 f3 c).toArray,sg 1 j] (O.numbers [1] N d) ?_⟩;rintro _ q ⟨rfl,O⟩;refine⟨_,rfl,O.X,aS<|bh (.tuple #[]) (rs0) ?_⟩;exact⟨rfl,O.I,O.C⟩
end
end
end Rc
end
section
namespace Rc
open Go.RowKit Go.Lib Pg
attribute [local go_sem] Oper.semAt_some
def fit (V:Int):Int:=if (eb V).length < 256 then V else 0
theorem l8 (V:Int):(eb (fit V)).length < 256:=by
 unfold fit;split
 ·assumption
 rw[natB_0];decide
def gZ:Nat->Int->List Int
 | 0,x=>be 8 x
 | 1,x=>be 1 x
 | _,x=>fP 1 (eb (fit x))
theorem But.chg {g:Nat} {w w':World} (h:But g w w'):Chg (·=g) w w':=⟨h.os,h.tape,h.output,h.size,λb hb hne=>h.block b hb hne⟩
theorem sR {w:World} {ao:Option Addr} {n c:Nat} {V:Int} (h:aW w ao n c V) (hn:n<=1000000) :
  Calls Tryz.prog 167 #[.agg #[.slice ao n c]] w λe w'=>∃ a1 n1 c1,e=.returned (.agg #[.slice a1 n1 c1])/\aW w' a1 n1 c1 (fit V)/\n1<=1000000/\BW w w':=by
 have b1:=aa w (.cells #[.slice ao n c] 55);have A:=aa (w.alloc (.cells #[.slice ao n c] 55)) (.cells #[.slice none 0 0] 55);have q:=aa ((w.alloc (.cells #[.slice ao n c] 55)).alloc (.cells #[.slice none 0 0] 55)) (.cells Tryz.zeroCells80 80);have s1:=rD w (.cells #[.slice ao n c] 55);have s2:=rD (w.alloc (.cells #[.slice ao n c] 55)) (.cells #[.slice none 0 0] 55);have v:=((ay w [.slice ao n c] 55).keep A).keep q;have s:=(ay (w.alloc (.cells #[.slice ao n c] 55)) [.slice none 0 0] 55).keep q;have X:=GQ ((w.alloc (.cells #[.slice ao n c] 55)).alloc (.cells #[.slice none 0 0] 55));rw[s2,s1] at X;rw[s1] at s;obtain⟨C,j⟩:∃ C,Hid ((((w.alloc (.cells #[.slice ao n c] 55)).alloc (.cells #[.slice none 0 0] 55)).alloc (.cells Tryz.zeroCells80 80))=C):=⟨_,rfl⟩
 have t:=ae (ae b1 A) q;rw[j.out] at t v s X;have f:=aG t;have p:=aG v;have m:=aG s;have E:=aG X;have D:=aG (h.keep t);have z:=aG h;have o:=aG (show ¬ (w.heap.size=w.heap.size+1+1) by omega);have l:=aG (show ¬ (w.heap.size+1=w.heap.size+1+1) by omega);clear b1 A s1 s2 v s q X h t;by_cases hf:(eb V).length < 256
 ·have B:=aG (show iR V 0=0 by unfold iR;rw[if_pos hf]);have x:=aG (show fit V=V by unfold fit;rw[if_pos hf])
  have G:=aG (show (j7 V 0 []).length<=17592186044416 by
   unfold j7 wrote;rw[if_pos hf,if_pos rfl];simp[fP,ax]
   omega)
  clear hf;go_enter Tryz.func167,Tryz.ntmps167;go_wp2_with fail;rw[j.out];refine(An E.out D.out (by simp;omega)).mono ?_
  rintro y F ⟨rfl,g,d⟩;rw[B.out] at g;go_wp2_with fail;refine(kG g G.out).mono ?_
  rintro y H ⟨rfl,-,b⟩;have k1:=p.out.chg (But.chg d) o.out;have k2:=m.out.chg (But.chg d) l.out;have d1:=(k1.keep b).cell (i:=0) rfl;have d2:=(k2.keep b).cell (i:=0) rfl;have f2:=(k2.keep b).free 0;have r:=aG ((d.below f.out (by omega) (Nat.le_refl _)).trans (b.mono (by have:=f.out.size;have:=d.size;omega)));have u:=aG (show Slot _ _ _ _ from⟨((k2.keep b).setCell (i:=0) (.slice ao n c)).blk⟩);clear k1 k2 g d b;go_wp2;refine bodyPost_ret (rh rfl rfl u.out) rfl ?_
  refine⟨ao,n,c,rfl,?_,hn,?_⟩
  ·rw[x.out];exact z.out.keep (r.out.setCell (Nat.le_succ _) _)
  exact r.out.setCell (Nat.le_succ _) _
 have B:=aG (show iR V 0=42 by unfold iR;rw[if_neg hf];rfl);have x:=aG (show fit V=0 by unfold fit;rw[if_neg hf]);clear hf;go_enter Tryz.func167,Tryz.ntmps167;go_wp2_with fail;rw[j.out];refine(An E.out D.out (by simp;omega)).mono ?_
 rintro y F ⟨rfl,g,d⟩;rw[B.out] at g;go_wp2_with fail;refine(wrOutE g (by decide)).mono ?_
 rintro y H ⟨rfl,b⟩;have k1:=p.out.chg (But.chg d) o.out;have k2:=m.out.chg (But.chg d) l.out;have d1:=(k1.keep b).cell (i:=0) rfl;have d2:=(k2.keep b).cell (i:=0) rfl;have f2:=(k2.keep b).free 0;have r:=aG ((d.below f.out (by omega) (Nat.le_refl _)).trans (b.mono (by have:=f.out.size;have:=d.size;omega)));have u:=aG (show Slot _ _ _ _ from⟨((k2.keep b).setCell (i:=0) (.slice none 0 0)).blk⟩);clear k1 k2 g d b;go_wp2;refine bodyPost_ret (rh rfl rfl u.out) rfl ?_
 refine⟨none,0,0,rfl,?_,by decide,?_⟩
 ·rw[x.out];exact(De _).a
 exact r.out.setCell (Nat.le_succ _) _
end Rc
end
section
namespace Rc
open Go.RowKit Go.Lib Pg Gl
attribute [local go_sem] Oper.semAt_some
section
variable {cs:List Value}{v:Value}
theorem AZ(k:Nat)(x:Int):(gZ k x).length<=300:=by
 unfold gZ;split
 ·rw[ax];decide
 ·rw[ax];decide
 have:=l8 x;simp only[fP,List.length_append,ax];omega
def pnx(xs:Nat->Int)(k o:Nat)(L:List Int):List Int:=L ++ gZ k (xs o)
theorem dA(xs:Nat->Int)(l:List (Nat × Nat)):∀ L:List Int,(thr (pnx xs) l L).length<=L.length+300 * l.length:=by
 induction l with
 | nil=>intro L;simp[thr]
 | cons p l ih =>
  intro L;have h:=ih (pnx xs p.1 p.2 L);have a:=AZ p.1 (xs p.2)
  have e:thr (pnx xs) (p :: l) L=thr (pnx xs) l (pnx xs p.1 p.2 L):=rfl;rw[e];simp only[pnx,List.length_append] at h;simp only[List.length_cons];simp only[pnx];omega
def okL(L:List Int):Prop:=L.length<=1000000000000
structure PI(w0:World)(bw rb:Nat)(cs:List Value)(T:TypeId)(L:List Int)(w:World):Prop where
 wr:WrA w bw 0 L
 bel:BW w0 w
 blk:Blk w rb cs T
 hb:w0.heap.size<=bw
 ne:rb≠bw
def rK(w0:World)(kd:Nat->Nat)(cs:List Value)(xs:Nat->Int):Prop:=∀ o,(kd o=0->cs[o]?=some (.int .u64 (xs o)))/\(kd o=1->∃ b:Bool,cs[o]?=some (.bool b)/\xs o=if b then 1 else 0)/\(kd o=2->∃ ao n c,cs[o]?=some (.slice ao n c)/\aW w0 ao n c (xs o)/\n<=1000000)
theorem PI.step{w0 w w':World}{bw rb:Nat}{T:TypeId}{L L':List Int}(h:PI w0 bw rb cs T L w)(X:WrA w' bw 0 L')(B:But bw w w'):PI w0 bw rb cs T L' w' :=
 ⟨X,B.below h.bel h.hb (Nat.le_refl _),h.blk.chg (But.chg B) (λe=>h.ne e),h.hb,h.ne⟩
def eH(o:Nat):Nat:=([0,0,0,0,0,0,0,0,0,0]:List Nat).getD o 9
def iv(o:Nat):Nat:=([0,0]:List Nat).getD o 9
def gW(o:Nat):Nat:=([2]:List Nat).getD o 9
def ea(o:Nat):Nat:=([0,0]:List Nat).getD o 9
def jd(o:Nat):Nat:=([0,0,2,1,0,1,0,2,2,2]:List Nat).getD o 9
def eQ(o:Nat):Nat:=([2,0,2]:List Nat).getD o 9
def ec(o:Nat):Nat:=([2,0]:List Nat).getD o 9
structure Lk(f:FuncId)(g:Func):Prop where
 ex:∃ fn,Tryz.prog.funcs[f]?=some fn/\fn.body=g.body/\fn.ntmps=g.ntmps/\fn.results=g.results
 en:∀ args w,(callFunc f args).run Tryz.prog w=.ok (.enter f args) w
theorem drop_one{o:Nat}(h:cs[o]?=some v):(cs.drop o).take [v].length=[v]:=by
 rw[List.getElem?_eq_some_iff] at h;obtain⟨h1,rfl⟩:=h;rw[List.drop_eq_getElem_cons h1];rfl
end
section
variable {w w0:World} {f f1 f2 f3:FuncId} {bw rb o:Nat} {L:List Int} {cs:List Value} {T:TypeId}
section
variable {ao:Option Addr}{kd:Nat->Nat}{xs:Nat->Int}
theorem pn_any(K:Lk f Tryz.f162){x:Int}(R:Blk w rb cs T)(c:cs[o]? = some (iU x))(X:WrA w bw 0 L)(hL:L.length<=1000000000000):CP f #[pq rb o,pg bw] w λe w'=>e=.returned (.tuple #[])/\WrA w' bw 0 (L ++ gZ 0 x)/\But bw w w':=by
 obtain⟨⟨fn,hf,hb,hn,a⟩,-⟩:=K;refine af (n:=7) (hn:=hn) hf (hb.trans rfl) ?_
 refine aN<|tz 2<|tl 5 (.int .u64 x) R o ?_ (hv:=c)
 refine tc 6 53 #[pg bw,.int .u64 x] (GV X) ?_
 rintro _ v ⟨rfl,X,B⟩;refine⟨_,rfl,aO<|bh (.tuple #[]) (rs0 (h:=a)) ?_⟩;exact⟨rfl,X,B⟩
theorem pt_any(K:Lk f Tryz.f163){x:Bool}{y:Int}(hy:(if x then (1:Int) else 0)=y)(R:Blk w rb cs T)(c:cs[o]? = some (.bool x))(X:WrA w bw 0 L)(hL:L.length<=1000000000000):CP f #[pq rb o,pg bw] w λe w'=>e=.returned (.tuple #[])/\WrA w' bw 0 (L ++ gZ 1 y)/\But bw w w':=by
 subst hy;obtain⟨⟨fn,hf,hb,hn,a⟩,-⟩:=K;refine af (n:=7) (hn:=hn) hf (hb.trans rfl) ?_
 refine aN<|tz 2<|tl 5 (.bool x) R o ?_ (hv:=c)
 refine tc 6 164 #[pg bw,.bool x] (wrBool X (by omega)) ?_
 rintro _ v ⟨rfl,X,B⟩;refine⟨_,rfl,aO<|bh (.tuple #[]) (rs0 (h:=a)) ?_⟩;exact⟨rfl,X,B⟩
theorem pd_any(K:Lk f Tryz.f165){n c:Nat}{V:Int}(R:Blk w rb cs T)(cc:cs[o]? = some (.slice ao n c))(p:aW w ao n c V)(a:n<=1000000)(X:WrA w bw 0 L)(hL:L.length<=1000000000000):CP f #[pq rb o,pg bw] w λe w'=>e=.returned (.tuple #[])/\WrA w' bw 0 (L ++ gZ 2 V)/\But bw w w':=by
 obtain⟨⟨fn,hf,hb,hn,hr⟩,-⟩:=K;refine af (n:=8) (hn:=hn) hf (hb.trans rfl) ?_
 refine aN<|tz 2<|tlr 5 [.slice ao n c] R o ?_ (hr:=drop_one cc)
 refine tc 6 167 #[.agg #[.slice ao n c]] (sR p a) ?_
 rintro _ v ⟨a1,m,c1,rfl,k,j,d⟩;refine⟨_,rfl,tc 7 166 #[pg bw,.agg #[.slice a1 m c1]] (An (X.keep d) k (by omega)) ?_⟩;rintro _ v2 ⟨rfl,g,i⟩
 have l:iR (fit V) 0=0:=by unfold iR;rw[if_pos (l8 V)]
 have b:j7 (fit V) 0 L=L ++ gZ 2 V:=by unfold j7 wrote;rw[if_pos (l8 V),if_pos rfl];rfl
 rw[l,b] at g;refine⟨_,rfl,aO<|bh (.tuple #[]) (rs0 (h:=hr)) ?_⟩;exact⟨rfl,g,(But.of d).trans i⟩
theorem ju(j:Lk f1 Tryz.f162)(i:Lk f2 Tryz.f163)(g:Lk f3 Tryz.f165)(F:rK w0 kd cs xs):HC (List Int) (PI w0 bw rb cs T) (·=bw) rb f1 f2 f3 (pg bw) (pnx xs) kd okL where
 oks:=λk o L h=>by
  unfold okL pnx at *;rw[List.length_append] at h;omega
 keep:=λL w f h B=>⟨h.wr.keep B,h.bel.trans (B.mono h.bel.size),h.blk.keep B,h.hb,h.ne⟩
 old:=λL w b h e=>by have l:b=bw:=e;subst l;exact h.wr.lt
 e1:=j.en
 e2:=i.en
 e3:=g.en
 u:=λL w o h hok hk=>by
  have a:L.length<=1000000000000:=by unfold okL pnx at hok;rw[List.length_append] at hok;omega
  refine(pn_any j h.blk ((F o).1 hk) h.wr a).mono ?_
  rintro e f ⟨rfl,X,B⟩;exact⟨rfl,h.step X B,But.chg B⟩
 t:=λL w o h hok hk=>by
  have a:L.length<=1000000000000:=by unfold okL pnx at hok;rw[List.length_append] at hok;omega
  obtain⟨b,hb,hx⟩:=(F o).2.1 hk;refine(pt_any i hx.symm h.blk hb h.wr a).mono ?_
  rintro e f ⟨rfl,X,B⟩;exact⟨rfl,h.step X B,But.chg B⟩
 d:=λL w o h hok hk=>by
  have a:L.length<=1000000000000:=by unfold okL pnx at hok;rw[List.length_append] at hok;omega
  obtain⟨p,n,c,hb,m,hn⟩:=(F o).2.2 hk;refine(pd_any g h.blk hb (m.keep h.bel) hn h.wr a).mono ?_
  rintro e f ⟨rfl,X,B⟩;exact⟨rfl,h.step X B,But.chg B⟩
end
end
section
variable {w:World}{x0 x1 x2 x3 x4 x5 x6 x7 x8 x9:Int}{a0 a2 a7 a8 a9:Option Addr}{n0 c0 n2 c2 n7 c7 n8 c8 n9 c9:Nat}{b3 b5:Bool}{ops:Array Oper}{rest:List Oper}
theorem xO : rK w eH [.int .u64 x0, .int .u64 x1, .int .u64 x2, .int .u64 x3, .int .u64 x4, .int .u64 x5, .int .u64 x6, .int .u64 x7, .int .u64 x8, .int .u64 x9] (λo => ([x0, x1, x2, x3, x4, x5, x6, x7, x8, x9] : List Int).getD o 0) := λo => match o with
    | 0=>⟨λ_=>rfl,λh=>absurd h (by decide),λh=>absurd h (by decide)⟩
    | 1=>⟨λ_=>rfl,λh=>absurd h (by decide),λh=>absurd h (by decide)⟩
    | 2=>⟨λ_=>rfl,λh=>absurd h (by decide),λh=>absurd h (by decide)⟩
    | 3=>⟨λ_=>rfl,λh=>absurd h (by decide),λh=>absurd h (by decide)⟩
    | 4=>⟨λ_=>rfl,λh=>absurd h (by decide),λh=>absurd h (by decide)⟩
    | 5=>⟨λ_=>rfl,λh=>absurd h (by decide),λh=>absurd h (by decide)⟩
    | 6=>⟨λ_=>rfl,λh=>absurd h (by decide),λh=>absurd h (by decide)⟩
    | 7=>⟨λ_=>rfl,λh=>absurd h (by decide),λh=>absurd h (by decide)⟩
    | 8=>⟨λ_=>rfl,λh=>absurd h (by decide),λh=>absurd h (by decide)⟩
    | 9=>⟨λ_=>rfl,λh=>absurd h (by decide),λh=>absurd h (by decide)⟩
    | k+10=>⟨λh=>absurd h (by simp[eH]),λh=>absurd h (by simp[eH]),λh=>absurd h (by simp[eH])⟩
theorem yY : rK w iv [.int .u64 x0, .int .u64 x1] (λo => ([x0, x1] : List Int).getD o 0) := λo => match o with
    | 0=>⟨λ_=>rfl,λh=>absurd h (by decide),λh=>absurd h (by decide)⟩
    | 1=>⟨λ_=>rfl,λh=>absurd h (by decide),λh=>absurd h (by decide)⟩
    | k+2=>⟨λh=>absurd h (by simp[iv]),λh=>absurd h (by simp[iv]),λh=>absurd h (by simp[iv])⟩
theorem Fi(h0 : aW w a0 n0 c0 x0)(m0 : n0 ≤ 1000000) : rK w gW [.slice a0 n0 c0] (λo => ([x0] : List Int).getD o 0) := λo => match o with
    | 0=>⟨λh=>absurd h (by decide),λh=>absurd h (by decide),λ_=>⟨a0,n0,c0,rfl,h0,m0⟩⟩
    | k+1=>⟨λh=>absurd h (by simp[gW]),λh=>absurd h (by simp[gW]),λh=>absurd h (by simp[gW])⟩
theorem ux : rK w ea [.int .u64 x0, .int .u64 x1] (λo => ([x0, x1] : List Int).getD o 0) := λo => match o with
    | 0=>⟨λ_=>rfl,λh=>absurd h (by decide),λh=>absurd h (by decide)⟩
    | 1=>⟨λ_=>rfl,λh=>absurd h (by decide),λh=>absurd h (by decide)⟩
    | k+2=>⟨λh=>absurd h (by simp[ea]),λh=>absurd h (by simp[ea]),λh=>absurd h (by simp[ea])⟩
theorem fl_Val(b : aW w a2 n2 c2 x2)(a : n2 ≤ 1000000)(d : aW w a7 n7 c7 x7)(e : n7 ≤ 1000000)(f : aW w a8 n8 c8 x8)(i : n8 ≤ 1000000)(g : aW w a9 n9 c9 x9)(c : n9 ≤ 1000000) : rK w jd [.int .u64 x0, .int .u64 x1, .slice a2 n2 c2, .bool b3, .int .u64 x4, .bool b5, .int .u64 x6, .slice a7 n7 c7, .slice a8 n8 c8, .slice a9 n9 c9] (λo => ([x0, x1, x2, (if b3 then 1 else 0), x4, (if b5 then 1 else 0), x6, x7, x8, x9] : List Int).getD o 0) := λo => match o with
    | 0=>⟨λ_=>rfl,λh=>absurd h (by decide),λh=>absurd h (by decide)⟩
    | 1=>⟨λ_=>rfl,λh=>absurd h (by decide),λh=>absurd h (by decide)⟩
    | 2=>⟨λh=>absurd h (by decide),λh=>absurd h (by decide),λ_=>⟨a2,n2,c2,rfl,b,a⟩⟩
    | 3=>⟨λh=>absurd h (by decide),λ_=>⟨b3,rfl,rfl⟩,λh=>absurd h (by decide)⟩
    | 4=>⟨λ_=>rfl,λh=>absurd h (by decide),λh=>absurd h (by decide)⟩
    | 5=>⟨λh=>absurd h (by decide),λ_=>⟨b5,rfl,rfl⟩,λh=>absurd h (by decide)⟩
    | 6=>⟨λ_=>rfl,λh=>absurd h (by decide),λh=>absurd h (by decide)⟩
    | 7=>⟨λh=>absurd h (by decide),λh=>absurd h (by decide),λ_=>⟨a7,n7,c7,rfl,d,e⟩⟩
    | 8=>⟨λh=>absurd h (by decide),λh=>absurd h (by decide),λ_=>⟨a8,n8,c8,rfl,f,i⟩⟩
    | 9=>⟨λh=>absurd h (by decide),λh=>absurd h (by decide),λ_=>⟨a9,n9,c9,rfl,g,c⟩⟩
    | k+10=>⟨λh=>absurd h (by simp[jd]),λh=>absurd h (by simp[jd]),λh=>absurd h (by simp[jd])⟩
theorem oD(h0 : aW w a0 n0 c0 x0)(m0 : n0 ≤ 1000000)(b : aW w a2 n2 c2 x2)(a : n2 ≤ 1000000) : rK w eQ [.slice a0 n0 c0, .int .u64 x1, .slice a2 n2 c2] (λo => ([x0, x1, x2] : List Int).getD o 0) := λo => match o with
    | 0=>⟨λh=>absurd h (by decide),λh=>absurd h (by decide),λ_=>⟨a0,n0,c0,rfl,h0,m0⟩⟩
    | 1=>⟨λ_=>rfl,λh=>absurd h (by decide),λh=>absurd h (by decide)⟩
    | 2=>⟨λh=>absurd h (by decide),λh=>absurd h (by decide),λ_=>⟨a2,n2,c2,rfl,b,a⟩⟩
    | k+3=>⟨λh=>absurd h (by simp[eQ]),λh=>absurd h (by simp[eQ]),λh=>absurd h (by simp[eQ])⟩
theorem uk(h0 : aW w a0 n0 c0 x0)(m0 : n0 ≤ 1000000) : rK w ec [.slice a0 n0 c0, .int .u64 x1] (λo => ([x0, x1] : List Int).getD o 0) := λo => match o with
    | 0=>⟨λh=>absurd h (by decide),λh=>absurd h (by decide),λ_=>⟨a0,n0,c0,rfl,h0,m0⟩⟩
    | 1=>⟨λ_=>rfl,λh=>absurd h (by decide),λh=>absurd h (by decide)⟩
    | k+2=>⟨λh=>absurd h (by simp[ec]),λh=>absurd h (by simp[ec]),λh=>absurd h (by simp[ec])⟩
theorem oq{n:Nat}{ds:List Deferred}{o:Oper}{l:Fr}{Q:Exit->Act->World->Prop}(d:Nat)(h:∀ w1 g,WrA w1 g 0 []->w.heap.size<=g->BW w w1->GL Tryz.prog n ds ops Q rest ((d,pg g) :: l) w1)(a:gd ops l o=some true:=by kernel_rfl)(hc:chk n l o (some d)=true:=by kernel_rfl)(hrun:(execOp (evL l) o).run Tryz.prog w=.ok (.value (pg w.heap.size)) (w.alloc (.cells Tryz.zeroCells80 80)):=by kernel_rfl):GL Tryz.prog n ds ops Q (o :: rest) l w:=fH (some d) _ a hc hrun (h _ _ (GQ w) (Nat.le_refl _) (aa w _))
theorem uG :
  CP 127 #[.agg #[iU x0,iU x1,iU x2,iU x3,iU x4,iU x5,iU x6,iU x7,iU x8,iU x9],.func (.func 128) #[] #[]] w λe w'=>∃ b n,e=.returned (.slice (some ⟨b,0,none⟩) n n)/\n=(thr (pnx (λo=>([x0,x1,x2,x3,x4,x5,x6,x7,x8,x9]:List Int).getD o 0)) [(0,0),(0,1),(0,2),(0,3),(0,4),(0,5),(0,6),(0,7),(0,8),(0,9)] []).length/\Box w' b ((thr (pnx (λo=>([x0,x1,x2,x3,x4,x5,x6,x7,x8,x9]:List Int).getD o 0)) [(0,0),(0,1),(0,2),(0,3),(0,4),(0,5),(0,6),(0,7),(0,8),(0,9)] []).map (Value.int .u8)) 5/\w.heap.size<=b/\BW w w':=by
 refine af (n:=19) Tryz.func127 rfl ?_
 refine sr<|ta 2 [.int .u64 x0,.int .u64 x1,.int .u64 x2,.int .u64 x3,.int .u64 x4,.int .u64 x5,.int .u64 x6,.int .u64 x7,.int .u64 x8,.int .u64 x9] 24 (pg) ?_
 intro v1 g1 c q1 a;refine tz 1<|nx<|oq 5 ?_
 intro v2 f h i d;refine nx<|tz 5 ?_
 have l1:=c.lt;have hlen:=dA (λo=>([x0,x1,x2,x3,x4,x5,x6,x7,x8,x9]:List Int).getD o 0) [(0,0),(0,1),(0,2),(0,3),(0,4),(0,5),(0,6),(0,7),(0,8),(0,9)] [];refine tc 13 128 #[pg g1,.agg (hq 162 163 165 (pg f)).toArray] (kA (s:=[]) (ju ⟨⟨_,Tryz.func162,rfl,rfl,rfl⟩,λ_ _=>by kernel_rfl⟩ ⟨⟨_,Tryz.func163,rfl,rfl,rfl⟩,λ_ _=>by kernel_rfl⟩ ⟨⟨_,Tryz.func165,rfl,rfl,rfl⟩,λ_ _=>by kernel_rfl⟩ (xO (x0:=x0) (x1:=x1) (x2:=x2) (x3:=x3) (x4:=x4) (x5:=x5) (x6:=x6) (x7:=x7) (x8:=x8) (x9:=x9) (w:=w))) ⟨h,ae a d,c.keep d,Nat.le_trans a.size i,by omega⟩ (Nat.le_trans hlen (by decide))) ?_
 rintro _ j ⟨rfl,I,C⟩;generalize thr (pnx (λo=>([x0,x1,x2,x3,x4,x5,x6,x7,x8,x9]:List Int).getD o 0)) [(0,0),(0,1),(0,2),(0,3),(0,4),(0,5),(0,6),(0,7),(0,8),(0,9)] []=M at *;refine⟨_,rfl,nx<|tc 15 34 #[pg f] (kG I.wr (Nat.le_trans hlen (by decide))) ?_⟩;rintro _ v4 ⟨rfl,g,k⟩;refine⟨_,rfl,tz 5<|nx<|tz 2<|nr<|ah (sg M.length j.heap.size) (rs1 4) ?_⟩;exact⟨_,_,rfl,rfl,g,I.bel.size,ae I.bel k⟩
theorem yK :
  CP 129 #[.agg #[iU x0,iU x1],.func (.func 130) #[] #[]] w λe w'=>∃ b n,e=.returned (.slice (some ⟨b,0,none⟩) n n)/\n=(thr (pnx (λo=>([x0,x1]:List Int).getD o 0)) [(0,0),(0,1)] []).length/\Box w' b ((thr (pnx (λo=>([x0,x1]:List Int).getD o 0)) [(0,0),(0,1)] []).map (Value.int .u8)) 5/\w.heap.size<=b/\BW w w':=by
 refine af (n:=19) Tryz.func129 rfl ?_
 refine sr<|ta 2 [.int .u64 x0,.int .u64 x1] 138 (pg) ?_
 intro v1 g1 c q1 a;refine tz 1<|nx<|oq 5 ?_
 intro v2 f h i d;refine nx<|tz 5 ?_
 have l1:=c.lt;have hlen:=dA (λo=>([x0,x1]:List Int).getD o 0) [(0,0),(0,1)] [];refine tc 13 130 #[pg g1,.agg (hq 168 169 170 (pg f)).toArray] (tu (ju ⟨⟨_,Tryz.func168,rfl,rfl,rfl⟩,λ_ _=>by kernel_rfl⟩ ⟨⟨_,Tryz.func169,rfl,rfl,rfl⟩,λ_ _=>by kernel_rfl⟩ ⟨⟨_,Tryz.func170,rfl,rfl,rfl⟩,λ_ _=>by kernel_rfl⟩ (yY (x0:=x0) (x1:=x1) (w:=w))) (s:=[]) ⟨h,ae a d,c.keep d,Nat.le_trans a.size i,by omega⟩ (by decide) (Nat.le_trans hlen (by decide))) ?_
 rintro _ j ⟨rfl,I,C⟩;generalize thr (pnx (λo=>([x0,x1]:List Int).getD o 0)) [(0,0),(0,1)] []=M at *;refine⟨_,rfl,nx<|tc 15 34 #[pg f] (kG I.wr (Nat.le_trans hlen (by decide))) ?_⟩;rintro _ v4 ⟨rfl,g,k⟩;refine⟨_,rfl,tz 5<|nx<|tz 2<|nr<|ah (sg M.length j.heap.size) (rs1 4) ?_⟩;exact⟨_,_,rfl,rfl,g,I.bel.size,ae I.bel k⟩
theorem Dr(h0:aW w a0 n0 c0 x0)(m0:n0<=1000000) :
  CP 362 #[.agg #[.slice a0 n0 c0],.func (.func 363) #[] #[]] w λe w'=>∃ b n,e=.returned (.slice (some ⟨b,0,none⟩) n n)/\n=(thr (pnx (λo=>([x0]:List Int).getD o 0)) [(2,0)] []).length/\Box w' b ((thr (pnx (λo=>([x0]:List Int).getD o 0)) [(2,0)] []).map (Value.int .u8)) 5/\w.heap.size<=b/\BW w w':=by
 refine af (n:=19) Tryz.func362 rfl ?_
 refine sr<|ta 2 [.slice a0 n0 c0] 55 (pg) ?_
 intro v1 g1 c q1 a;refine tz 1<|nx<|oq 5 ?_
 intro v2 f h i d;refine nx<|tz 5 ?_
 have l1:=c.lt;have hlen:=dA (λo=>([x0]:List Int).getD o 0) [(2,0)] [];refine tc 13 363 #[pg g1,.agg (hq 382 383 384 (pg f)).toArray] (nR (s:=[]) (ju ⟨⟨_,Tryz.func382,rfl,rfl,rfl⟩,λ_ _=>by kernel_rfl⟩ ⟨⟨_,Tryz.func383,rfl,rfl,rfl⟩,λ_ _=>by kernel_rfl⟩ ⟨⟨_,Tryz.func384,rfl,rfl,rfl⟩,λ_ _=>by kernel_rfl⟩ (Fi h0 m0 (w:=w))) ⟨h,ae a d,c.keep d,Nat.le_trans a.size i,by omega⟩ (Nat.le_trans hlen (by decide))) ?_
 rintro _ j ⟨rfl,I,C⟩;generalize thr (pnx (λo=>([x0]:List Int).getD o 0)) [(2,0)] []=M at *;refine⟨_,rfl,nx<|tc 15 34 #[pg f] (kG I.wr (Nat.le_trans hlen (by decide))) ?_⟩;rintro _ v4 ⟨rfl,g,k⟩;refine⟨_,rfl,tz 5<|nx<|tz 2<|nr<|ah (sg M.length j.heap.size) (rs1 4) ?_⟩;exact⟨_,_,rfl,rfl,g,I.bel.size,ae I.bel k⟩
theorem tf :
  CP 172 #[.agg #[iU x0,iU x1],.func (.func 74) #[] #[]] w λe w'=>∃ b n,e=.returned (.slice (some ⟨b,0,none⟩) n n)/\n=(thr (pnx (λo=>([x0,x1]:List Int).getD o 0)) [(0,0),(0,1)] []).length/\Box w' b ((thr (pnx (λo=>([x0,x1]:List Int).getD o 0)) [(0,0),(0,1)] []).map (Value.int .u8)) 5/\w.heap.size<=b/\BW w w':=by
 refine af (n:=19) Tryz.func172 rfl ?_
 refine sr<|ta 2 [.int .u64 x0,.int .u64 x1] 50 (pg) ?_
 intro v1 g1 c q1 a;refine tz 1<|nx<|oq 5 ?_
 intro v2 f h i d;refine nx<|tz 5 ?_
 have l1:=c.lt;have hlen:=dA (λo=>([x0,x1]:List Int).getD o 0) [(0,0),(0,1)] [];refine tc 13 74 #[pg g1,.agg (hq 212 213 214 (pg f)).toArray] (jc (s:=[]) (ju ⟨⟨_,Tryz.func212,rfl,rfl,rfl⟩,λ_ _=>by kernel_rfl⟩ ⟨⟨_,Tryz.func213,rfl,rfl,rfl⟩,λ_ _=>by kernel_rfl⟩ ⟨⟨_,Tryz.func214,rfl,rfl,rfl⟩,λ_ _=>by kernel_rfl⟩ (ux (x0:=x0) (x1:=x1) (w:=w))) ⟨h,ae a d,c.keep d,Nat.le_trans a.size i,by omega⟩ (Nat.le_trans hlen (by decide))) ?_
 rintro _ j ⟨rfl,I,C⟩;generalize thr (pnx (λo=>([x0,x1]:List Int).getD o 0)) [(0,0),(0,1)] []=M at *;refine⟨_,rfl,nx<|tc 15 34 #[pg f] (kG I.wr (Nat.le_trans hlen (by decide))) ?_⟩;rintro _ v4 ⟨rfl,g,k⟩;refine⟨_,rfl,tz 5<|nx<|tz 2<|nr<|ah (sg M.length j.heap.size) (rs1 4) ?_⟩;exact⟨_,_,rfl,rfl,g,I.bel.size,ae I.bel k⟩
theorem EO(g:aW w a2 n2 c2 x2)(m:n2<=1000000)(r:aW w a7 n7 c7 x7)(h:n7<=1000000)(i:aW w a8 n8 c8 x8)(v:n8<=1000000)(t:aW w a9 n9 c9 x9)(q:n9<=1000000) :
  CP 249 #[.agg #[iU x0,iU x1,.slice a2 n2 c2,.bool b3,iU x4,.bool b5,iU x6,.slice a7 n7 c7,.slice a8 n8 c8,.slice a9 n9 c9],.func (.func 77) #[] #[]] w λe w'=>∃ b n,e=.returned (.slice (some ⟨b,0,none⟩) n n)/\n=(thr (pnx (λo=>([x0,x1,x2,(if b3 then 1 else 0),x4,(if b5 then 1 else 0),x6,x7,x8,x9]:List Int).getD o 0)) [(0,0),(0,1),(2,2),(1,3),(0,4),(1,5),(0,6),(2,7),(2,8),(2,9)] []).length/\Box w' b ((thr (pnx (λo=>([x0,x1,x2,(if b3 then 1 else 0),x4,(if b5 then 1 else 0),x6,x7,x8,x9]:List Int).getD o 0)) [(0,0),(0,1),(2,2),(1,3),(0,4),(1,5),(0,6),(2,7),(2,8),(2,9)] []).map (Value.int .u8)) 5/\w.heap.size<=b/\BW w w':=by
 refine af (n:=19) Tryz.func249 rfl ?_
 refine sr<|ta 2 [.int .u64 x0,.int .u64 x1,.slice a2 n2 c2,.bool b3,.int .u64 x4,.bool b5,.int .u64 x6,.slice a7 n7 c7,.slice a8 n8 c8,.slice a9 n9 c9] 57 (pg) ?_
 intro v1 g1 c q1 a;refine tz 1<|nx<|oq 5 ?_
 intro v2 f k l d;refine nx<|tz 5 ?_
 have l1:=c.lt;have hlen:=dA (λo=>([x0,x1,x2,(if b3 then 1 else 0),x4,(if b5 then 1 else 0),x6,x7,x8,x9]:List Int).getD o 0) [(0,0),(0,1),(2,2),(1,3),(0,4),(1,5),(0,6),(2,7),(2,8),(2,9)] [];refine tc 13 77 #[pg g1,.agg (hq 307 308 309 (pg f)).toArray] (o6 (s:=[]) (ju ⟨⟨_,Tryz.func307,rfl,rfl,rfl⟩,λ_ _=>by kernel_rfl⟩ ⟨⟨_,Tryz.func308,rfl,rfl,rfl⟩,λ_ _=>by kernel_rfl⟩ ⟨⟨_,Tryz.func309,rfl,rfl,rfl⟩,λ_ _=>by kernel_rfl⟩ (fl_Val g m r h i v t q (x0:=x0) (x1:=x1) (b3:=b3) (x4:=x4) (b5:=b5) (x6:=x6) (w:=w))) ⟨k,ae a d,c.keep d,Nat.le_trans a.size l,by omega⟩ (Nat.le_trans hlen (by decide))) ?_
 rintro _ p ⟨rfl,I,C⟩;generalize thr (pnx (λo=>([x0,x1,x2,(if b3 then 1 else 0),x4,(if b5 then 1 else 0),x6,x7,x8,x9]:List Int).getD o 0)) [(0,0),(0,1),(2,2),(1,3),(0,4),(1,5),(0,6),(2,7),(2,8),(2,9)] []=M at *;refine⟨_,rfl,nx<|tc 15 34 #[pg f] (kG I.wr (Nat.le_trans hlen (by decide))) ?_⟩;rintro _ v4 ⟨rfl,j,u⟩;refine⟨_,rfl,tz 5<|nx<|tz 2<|nr<|ah (sg M.length p.heap.size) (rs1 4) ?_⟩;exact⟨_,_,rfl,rfl,j,I.bel.size,ae I.bel u⟩
theorem mQ(h0:aW w a0 n0 c0 x0)(m0:n0<=1000000)(g:aW w a2 n2 c2 x2)(k:n2<=1000000) :
  CP 340 #[.agg #[.slice a0 n0 c0,iU x1,.slice a2 n2 c2],.func (.func 341) #[] #[]] w λe w'=>∃ b n,e=.returned (.slice (some ⟨b,0,none⟩) n n)/\n=(thr (pnx (λo=>([x0,x1,x2]:List Int).getD o 0)) [(2,0),(0,1),(2,2)] []).length/\Box w' b ((thr (pnx (λo=>([x0,x1,x2]:List Int).getD o 0)) [(2,0),(0,1),(2,2)] []).map (Value.int .u8)) 5/\w.heap.size<=b/\BW w w':=by
 refine af (n:=19) Tryz.func340 rfl ?_
 refine sr<|ta 2 [.slice a0 n0 c0,.int .u64 x1,.slice a2 n2 c2] 181 (pg) ?_
 intro v1 g1 c q1 a;refine tz 1<|nx<|oq 5 ?_
 intro v2 f i j d;refine nx<|tz 5 ?_
 have l1:=c.lt;have hlen:=dA (λo=>([x0,x1,x2]:List Int).getD o 0) [(2,0),(0,1),(2,2)] [];refine tc 13 341 #[pg g1,.agg (hq 365 366 367 (pg f)).toArray] (lB (ju ⟨⟨_,Tryz.func365,rfl,rfl,rfl⟩,λ_ _=>by kernel_rfl⟩ ⟨⟨_,Tryz.func366,rfl,rfl,rfl⟩,λ_ _=>by kernel_rfl⟩ ⟨⟨_,Tryz.func367,rfl,rfl,rfl⟩,λ_ _=>by kernel_rfl⟩ (oD h0 m0 g k (x1:=x1) (w:=w))) (s:=[]) ⟨i,ae a d,c.keep d,Nat.le_trans a.size j,by omega⟩ (by decide) (Nat.le_trans hlen (by decide))) ?_
 rintro _ l ⟨rfl,I,C⟩;generalize thr (pnx (λo=>([x0,x1,x2]:List Int).getD o 0)) [(2,0),(0,1),(2,2)] []=M at *;refine⟨_,rfl,nx<|tc 15 34 #[pg f] (kG I.wr (Nat.le_trans hlen (by decide))) ?_⟩;rintro _ v4 ⟨rfl,h,m⟩;refine⟨_,rfl,tz 5<|nx<|tz 2<|nr<|ah (sg M.length l.heap.size) (rs1 4) ?_⟩;exact⟨_,_,rfl,rfl,h,I.bel.size,ae I.bel m⟩
theorem tK(h0:aW w a0 n0 c0 x0)(m0:n0<=1000000) :
  CP 264 #[.agg #[.slice a0 n0 c0,iU x1],.func (.func 263) #[] #[]] w λe w'=>∃ b n,e=.returned (.slice (some ⟨b,0,none⟩) n n)/\n=(thr (pnx (λo=>([x0,x1]:List Int).getD o 0)) [(2,0),(0,1)] []).length/\Box w' b ((thr (pnx (λo=>([x0,x1]:List Int).getD o 0)) [(2,0),(0,1)] []).map (Value.int .u8)) 5/\w.heap.size<=b/\BW w w':=by
 refine af (n:=19) Tryz.func264 rfl ?_
 refine sr<|ta 2 [.slice a0 n0 c0,.int .u64 x1] 272 (pg) ?_
 intro v1 g1 c q1 a;refine tz 1<|nx<|oq 5 ?_
 intro v2 f h i d;refine nx<|tz 5 ?_
 have l1:=c.lt;have hlen:=dA (λo=>([x0,x1]:List Int).getD o 0) [(2,0),(0,1)] [];refine tc 13 263 #[pg g1,.agg (hq 317 318 319 (pg f)).toArray] (iV (s:=[]) (ju ⟨⟨_,Tryz.func317,rfl,rfl,rfl⟩,λ_ _=>by kernel_rfl⟩ ⟨⟨_,Tryz.func318,rfl,rfl,rfl⟩,λ_ _=>by kernel_rfl⟩ ⟨⟨_,Tryz.func319,rfl,rfl,rfl⟩,λ_ _=>by kernel_rfl⟩ (uk h0 m0 (x1:=x1) (w:=w))) ⟨h,ae a d,c.keep d,Nat.le_trans a.size i,by omega⟩ (Nat.le_trans hlen (by decide))) ?_
 rintro _ j ⟨rfl,I,C⟩;generalize thr (pnx (λo=>([x0,x1]:List Int).getD o 0)) [(2,0),(0,1)] []=M at *;refine⟨_,rfl,nx<|tc 15 34 #[pg f] (kG I.wr (Nat.le_trans hlen (by decide))) ?_⟩;rintro _ v4 ⟨rfl,g,k⟩;refine⟨_,rfl,tz 5<|nx<|tz 2<|nr<|ah (sg M.length j.heap.size) (rs1 4) ?_⟩;exact⟨_,_,rfl,rfl,g,I.bel.size,ae I.bel k⟩
end
end Rc
end
section
namespace Rc
open Go.RowKit Go.Lib Pg Lim
attribute [local go_sem] Oper.semAt_some
section
variable {w w':World}{B n c g b:Nat}{ao:Option Addr}{x err:Int}{v:Value}{r l:List Int}
structure dD(w:World)(B:Nat)(ao:Option Addr)(n c:Nat)(x:Int):Prop where
 ex:∃ b o l,l.length=n/\n<=c/\IsN l x/\At w ao b o l/\B<=b
theorem ua(w:World)(B:Nat):dD w B none 0 0 0:=⟨B,0,[],rfl,Nat.le_refl _,jP,⟨.inl rfl,λi hi=>by simp at hi⟩,Nat.le_refl _⟩
theorem dD.low{B':Nat}(h:dD w B ao n c x)(hB:B'<=B):dD w B' ao n c x:=by
 obtain⟨b,o,l,h1,h2,h3,h4,h5⟩:=h.ex;exact⟨b,o,l,h1,h2,h3,h4,Nat.le_trans hB h5⟩
theorem dD.off(h:dD w B ao n c x)(_hs:w.heap.size<=w'.heap.size)(hw:∀ b,B<=b->b < w.heap.size->w'.heap[b]?=w.heap[b]?):dD w' B ao n c x:=by
 obtain⟨b,o,l,g,e,f,a,d⟩:=h.ex;refine⟨b,o,l,g,e,f,⟨a.loc,λi hi=>?_⟩,d⟩;have hc:=a.cell i hi;rw[World.cell?_of_block (w:=w) (hw b d (aC hc))];exact hc
theorem newV_w(h:dL w w' v r)(d:IsN r x)(k:B<=w.heap.size):∃ a c,v=.slice a r.length c/\dD w' B a r.length c x:=by
 obtain⟨i,b,o,c,e,j,f,g,l⟩:=h.is;exact⟨i,c,e,b,o,r,rfl,j,d,g,Nat.le_trans k f⟩
theorem vu(h:RdA w g b 0 l) :
  Calls Tryz.prog 204 #[.pointer (some ⟨g,0,none⟩)] w λe w'=>∃ v,e=.returned (.tuple #[v,.int .i64 (rdE (cS l) 0)])/\∃ l1,RdA w' g b 0 l1/\But g w w'/\∀ x k,cS l=.inr (x,k)->l1=l.drop k/\∃ ao n c,v=.slice ao n c/\dD w' w.heap.size ao n c x/\n<=255:=by
 have f:=sw (m:=1) h;by_cases j:1<=l.length
 ·have t:=GM (m:=1) h j;have M:=CW h j;rw[show (256:Int) ^ 1=256 by decide] at M;rw[<- f] at t;have R:=(show Hid _ from h.oct)
  by_cases E:1+cE 1 l<=l.length
  ·by_cases y:0 < cE 1 l/\nth (l.drop 1) 0=0
   ·have d:cS l=.inl 41:=by unfold cS; rw[if_pos j,if_pos E,if_pos y]
    have q:Hid (rdE (cS l) 0=41):=by show _=_;rw[d];rfl
    have s:=(show Hid _ from d)
    have B:=(show Hid _ from y)
    clear d h y f;generalize cE 1 l=N at *;go_enter Tryz.func204,Tryz.ntmps204;go_wp2_with fail;refine t.mono ?_
    rintro e G ⟨rfl,z,u⟩;have t2:=CK (m:=N) z (by rw[List.length_drop];omega);clear t;go_wp2_with fail;refine t2.mono ?_
    rintro e C ⟨ao,rfl,hA,F,D⟩;obtain⟨o,k1,k2,k3,p,A⟩:=hA.ex;have t3:=Ei ao N N b o _ C k1 B.out.1 A (by rw[df (h:=B.out.1)];exact B.out.2);clear t2 k1 k2 k3 p A hA;go_wp2_with fail;refine t3.mono ?_
    rintro e L ⟨rfl,rfl⟩;clear t3;go_wp2;go_ret2;exact⟨_,by rw[q.out];rfl,_,F,u.trans D,λx k e=>by rw[s.out] at e;cases e⟩
   have d:cS l=.inr (bJ ((l.drop 1).take (cE 1 l)),1 + cE 1 l):=by unfold cS; rw[if_pos j,if_pos E,if_neg y]
   have q:Hid (rdE (cS l) 0=0):=by show _=_;rw[d];rfl
   have s:=(show Hid _ from d)
   have B:=(show Hid _ from y)
   clear d h y f;generalize cE 1 l=N at *;go_enter Tryz.func204,Tryz.ntmps204;go_wp2_with fail;refine t.mono ?_
   rintro e G ⟨rfl,z,u⟩;have t2:=CK (m:=N) z (by rw[List.length_drop];omega);clear t;go_wp2_with fail;refine t2.mono ?_
   rintro e C ⟨ao,rfl,hA,F,D⟩;obtain⟨o,k1,k2,k3,p,A⟩:=hA.ex;have t3:=Da ao N N b o _ C k1 (by omega) p A (λi I=>B.out ⟨i,by rw[df (h:=i)] at I;exact I⟩);clear t2 k1 k2 k3 p A hA;go_wp2_with fail;refine t3.mono ?_
   rintro e L ⟨v,r,rfl,k1,k2,k3,p⟩;obtain⟨P,Q,rfl,J⟩:=newV_w k1 k2 (show w.heap.size<=C.heap.size from(u.trans D).size);have H:=(show Hid _ from J)
   have K:=(show Hid _ from p)
   clear t3 k1 k2 p J;go_wp2;go_ret2
   exact⟨_,by rw[q.out]; rfl,_,F.keep K.out,(u.trans D).trans (But.of K.out),λx k e=>by
    rw[s.out] at e
    cases e
    exact⟨by rw[List.drop_drop],_,_,_,rfl,H.out,by omega⟩⟩
  have d:cS l=.inl 40:=by unfold cS; rw[if_pos j,if_neg E]
  have q:Hid (rdE (cS l) 0=40):=by show _=_;rw[d];rfl
  have s:=(show Hid _ from d)
  clear d h f;generalize cE 1 l=N at *;go_enter Tryz.func204,Tryz.ntmps204;go_wp2_with fail;refine t.mono ?_
  rintro e G ⟨rfl,z,u⟩;have t2:=Gv (m:=N) z (by rw[List.length_drop];omega);clear t E;go_wp2_with fail;refine t2.mono ?_
  rintro e C ⟨rfl,rfl⟩;clear t2;go_wp2;go_ret2;exact⟨_,by rw[q.out];rfl,_,z,u,λx k e=>by rw[s.out] at e;cases e⟩
 have t:=AG (m:=1) h
 have d:cS l=.inl 40:=by unfold cS;rw[if_neg j]
 have q:Hid (rdE (cS l) 0=40):=by show _=_;rw[d];rfl
 have s:=(show Hid _ from d)
 have O:=(show Hid _ from h)
 clear d h j f;go_enter Tryz.func204,Tryz.ntmps204;go_wp2_with fail;refine t.mono ?_
 rintro e G ⟨rfl,rfl⟩;clear t;go_wp2;go_ret2;exact⟨_,by rw[q.out];rfl,_,O.out,But.refl _ _,λx k e=>by rw[s.out] at e;cases e⟩
theorem rdNatW(h:RdA w g b err l) :
  Calls Tryz.prog 156 #[.pointer (some ⟨g,0,none⟩)] w λe w'=>∃ ao n c,e=.returned (.slice ao n c)/\dD w' w.heap.size ao n c (rdV 0 (cS l) err)/\n<=255/\RdA w' g b (rdE (cS l) err) (rdL (cS l) err l)/\But g w w':=by
 have t:=enNa (z:=(0:Int)) (p:=cS l) (V:=λx v w'=>∃ ao n c,v=.slice ao n c/\dD w' w.heap.size ao n c x/\n<=255) h (λ_=>FQ) (λw'=>⟨none,0,0,rfl,ua w' w.heap.size,by decide⟩) (λe=>by subst e;exact vu h);clear h;generalize rdV 0 (cS l) err=V at *;generalize rdE (cS l) err=E at *;generalize rdL (cS l) err l=R at *;go_enter Tryz.func156,Tryz.ntmps156;go_wp2_with fail;refine t.mono ?_
 rintro e f ⟨v,rfl,⟨ao,n,c,rfl,k3,d⟩,k1,k2⟩;clear t;go_wp2;go_ret;exact⟨ao,n,c,rfl,k3,d,k1,k2⟩
theorem rdDecW(h:RdA w g b err l) :
  Calls Tryz.prog 115 #[.pointer (some ⟨g,0,none⟩)] w λe w'=>∃ ao n c,e=.returned (.agg #[.slice ao n c])/\dD w' w.heap.size ao n c (rdV 0 (cS l) err)/\n<=255/\RdA w' g b (rdE (cS l) err) (rdL (cS l) err l)/\But g w w':=by
 have f:=(show Hid _ from aa w (.cells #[.slice none 0 0] 55))
 have m:=mM w (.slice none 0 0) 55
 have o:w.heap.size≠g:=by have:=h.lt;omega
 have i:=(show Hid _ from o)
 have t:=rdNatW (h.keep f.out);clear h o;generalize rdV 0 (cS l) err=V at *;generalize rdE (cS l) err=E at *;generalize rdL (cS l) err l=R at *;go_enter Tryz.func115,Tryz.ntmps115;go_wp2_with fail;refine t.mono ?_
 rintro e j ⟨ao,n,c,rfl,k3,p,k1,k2⟩;have d:=m.but k2 i.out;have c1:=d.cell;have f1:=d.free;have r:=d.put (.slice ao n c);have s:=(show Hid (dD (j.setCell ⟨w.heap.size,0,none⟩ (.slice ao n c)) w.heap.size ao n c V) from(k3.off (w':=j.setCell ⟨w.heap.size,0,none⟩ (.slice ao n c)) (by rw[size_set];exact Nat.le_refl _) (λb hb _=>Below.heap_setCell _ _ _ b (by have:=rD w (.cells #[.slice none 0 0] 55);show b≠w.heap.size;omega))).low f.out.size)
 have q:=(show Hid _ from k1.put (u:=.slice ao n c) d i.out (λx e=>by cases e))
 have v:=(show Hid _ from((But.of (g:=g) f.out).trans k2).put (Nat.le_refl _) (.slice ao n c))
 clear t m d k1 k2 k3 f i;go_wp2;refine bodyPost_ret (rh rfl rfl r) rfl ?_
 exact⟨ao,n,c,rfl,s.out,p,q.out,v.out⟩
end
end Rc
end
section
namespace Rc
open Go.RowKit Go.Lib Pg Gl
attribute [local go_sem] Oper.semAt_some
section
variable {w w':World}{B o k:Nat}{kd:Nat->Nat}{cs:List Value}{xs:Nat->Int}{v:Value}{l1:List Int}
abbrev RSt:=Int × List Int × (Nat->Int)
def et(l:List Int):Int ⊕ Int × Nat:=match bX l with
 | .inl e=>.inl e
 | .inr p=>.inr ((if p.1 then 1 else 0),p.2)
def p1:Nat->List Int->Int ⊕ Int × Nat
 | 0,l=>cA 8 l
 | 1,l=>et l
 | _,l=>cS l
theorem tB(l:List Int)(err:Int):rdE (et l) err=rdE (bX l) err:=by
 unfold rdE et
 cases bX l<;>rfl
theorem sm(l m:List Int)(err:Int):rdL (et l) err m=rdL (bX l) err m:=by
 unfold rdL et
 cases bX l<;>rfl
theorem sf(l:List Int)(err:Int):rdV 0 (et l) err=if rdV false (bX l) err then 1 else 0:=by
 unfold rdV et;by_cases h:err=0
 ·rw[if_pos h,if_pos h]
  cases bX l<;>rfl
 rw[if_neg h,if_neg h];rfl
def rnx(k o:Nat)(s:RSt):RSt:=(rdE (p1 k s.2.1) s.1,rdL (p1 k s.2.1) s.1 s.2.1,λi=>if i=o then rdV 0 (p1 k s.2.1) s.1 else s.2.2 i)
def lC(w:World)(B:Nat)(kd:Nat->Nat)(cs:List Value)(xs:Nat->Int):Prop:=∀ o,(kd o=0->cs[o]?=some (.int .u64 (xs o)))/\(kd o=1->∃ b:Bool,cs[o]?=some (.bool b)/\xs o=if b then 1 else 0)/\(kd o=2->∃ ao n c,cs[o]?=some (.slice ao n c)/\dD w B ao n c (xs o)/\n<=255)
theorem lC.off(h:lC w B kd cs xs)(hs:w.heap.size<=w'.heap.size)(hw:∀ b,B<=b->b < w.heap.size->w'.heap[b]? = w.heap[b]?):lC w' B kd cs xs:=λo=>⟨(h o).1,(h o).2.1,λhk=>by
 obtain⟨a,n,c,e,d,f⟩:=(h o).2.2 hk
 exact⟨a,n,c,e,d.off hs hw,f⟩⟩
structure RI(w0:World)(B g b vb rb:Nat)(kd:Nat->Nat)(len:Nat)(T vt:TypeId)(s:RSt)(w:World):Prop where
 rd:RdA w g b s.1 s.2.1
 var:Blk w vb [.pointer (some ⟨g,0,none⟩)] vt
 rc:∃ cs,cs.length=len/\Blk w rb cs T/\lC w B kd cs s.2.2
 bel:BW w0 w
 s1:rb≠g
 s2:vb≠g
 s3:vb≠rb
 s4:b≠rb
 g1:g < B
 r1:rb < B
 g0:w0.heap.size<=g
 r0:w0.heap.size<=rb
theorem Fv(h:o < cs.length):spl cs o [v]=cs.set o v:=by
 simp only[spl];rw[List.set_eq_take_append_cons_drop,if_pos h,List.append_assoc];rfl
theorem RI.step{w0 w1:World}{g b vb rb len:Nat}{T vt:TypeId}{s:RSt}{e1:Int}{x:Int}(h:RI w0 B g b vb rb kd len T vt s w)(q:cs.length=len)(hF:lC w B kd cs s.2.2)(ho:kd o=k)(z:o < len)(X:RdA w1 g b e1 l1)(l:But g w w1)(Y:Blk w' rb (spl cs o [v]) T)(C:Chg (·=rb) w1 w')(hv:(k=0/\v=.int .u64 x)\/(k=1/\∃ t:Bool,v=.bool t/\x=if t then 1 else 0)\/(k=2/\∃ ao n c,v=.slice ao n c/\dD w1 B ao n c x/\n<=255)) :
  RI w0 B g b vb rb kd len T vt (e1,l1,λi=>if i=o then x else s.2.2 i) w'/\Chg (λy=>y=g\/y=rb) w w':=by
 have hS:But rb w1 w':=⟨C.os,C.tape,C.output,C.size,λb hb m=>C.same b hb m⟩
 have r:=h.s1;have A:=h.g1;have u:=h.r1
 have j:Chg (·=g) w w1:=But.chg l;rw[Fv (by omega)] at Y
 have b1:BW w0 w1:=l.below h.bel h.g0 (Nat.le_refl _)
 have f:∀ y,B<=y->y < w.heap.size->w1.heap[y]?=w.heap[y]?:=λy hy d=>l.block y d (by omega)
 have DL:∀ y,B<=y->y < w1.heap.size->w'.heap[y]?=w1.heap[y]?:=λy hy d=>hS.block y d (by omega)
 refine⟨⟨X.offW (λe=>r e.symm) h.s4 hS,(h.var.chg j h.s2).chg C h.s3,⟨cs.set o v,by rw[List.length_set];exact q,Y,?_⟩,hS.below b1 h.r0 (Nat.le_refl _),h.s1,h.s2,h.s3,h.s4,h.g1,h.r1,h.g0,h.r0⟩,(j.mono (λ_ _ e=>.inl e)).trans C (λ_ _ e=>.inr e)⟩;have p:=hF.off l.size f;intro i;by_cases hi:i=o
 ·subst hi
  have a:(cs.set i v)[i]?=some v:=by rw[List.getElem?_set_self (by omega)]
  rw[a];simp only[if_true];refine⟨λhk=>?_,λhk=>?_,λhk=>?_⟩
  ·rcases hv with⟨_,e⟩ | ⟨e,_⟩ | ⟨e,_⟩
   ·rw[e]
   ·omega
   omega
  ·rcases hv with⟨e,_⟩ | ⟨_,t,e,e2⟩ | ⟨e,_⟩
   ·omega
   ·exact⟨t,by rw[e],e2⟩
   omega
  rcases hv with⟨e,_⟩ | ⟨e,_⟩ | ⟨_,ao,n,c,e,e2,e3⟩
  ·omega
  ·omega
  exact⟨ao,n,c,by rw[e],e2.off hS.size DL,e3⟩
 have a:(cs.set o v)[i]? = cs[i]? := by rw[List.getElem?_set_ne (λe=>hi e.symm)]
 simp only[if_neg hi];rw[a];exact(p.off hS.size DL) i
theorem qz(ks:List Nat)(h:ks.getD o 9=k)(hk:k≠9:=by decide):o < ks.length:=by
 by_cases a:o < ks.length
 ·exact a
 exfalso;rw[List.getD_eq_getElem?_getD,List.getElem?_eq_none (by omega)] at h;exact hk h.symm
end
section
variable {w:World} {f f1 f2 f3:FuncId} {g b vb rb o:Nat} {err:Int} {l:List Int} {cs:List Value} {T vt:TypeId}
section
variable {w0:World}
theorem rn_any(K:Lk f Tryz.f238)(X:RdA w g b err l)(V:Blk w vb [pg g] vt)(R:Blk w rb cs T)(a:rb≠g)(ho:o < cs.length):CP f #[pq rb o,pg vb] w λe w'=>e=.returned (.tuple #[])/\∃ w1,Blk w' rb (spl cs o [iU (rdV 0 (p1 0 l) err)]) T/\Chg (· = rb) w1 w'/\RdA w1 g b (rdE (p1 0 l) err) (rdL (p1 0 l) err l)/\But g w w1:=by
 obtain⟨⟨fn,hf,hb,hn,c⟩,-⟩:=K;refine af (n:=7) (hn:=hn) hf (hb.trans rfl) ?_
 refine aN<|tz 1<|tl 4 (pg g) V 0<|tc 5 48 #[pg g] (GJ X) ?_
 rintro _ w1 ⟨rfl,X,B⟩;refine⟨_,rfl,tz 1<|ts (R.chg (But.chg B) a) o (.int .u64 (rdV 0 (p1 0 l) err)) [.int .u64 (rdV 0 (p1 0 l) err)] _ ?_ (hb:=Nat.ble_eq_true_of_le ho)⟩;intro d Y C;refine aO<|bh (.tuple #[]) (rs0 (h:=c)) ?_
 exact⟨rfl,w1,Y,C,X,B⟩
theorem rt_any(K:Lk f Tryz.f239)(X:RdA w g b err l)(V:Blk w vb [pg g] vt)(R:Blk w rb cs T)(a:rb≠g)(ho:o < cs.length):CP f #[pq rb o,pg vb] w λe w'=>e=.returned (.tuple #[])/\∃ w1,Blk w' rb (spl cs o [.bool (rdV false (bX l) err)]) T/\Chg (· = rb) w1 w'/\RdA w1 g b (rdE (p1 1 l) err) (rdL (p1 1 l) err l)/\But g w w1:=by
 obtain⟨⟨fn,hf,hb,hn,c⟩,-⟩:=K;refine af (n:=7) (hn:=hn) hf (hb.trans rfl) ?_
 refine aN<|tz 1<|tl 4 (pg g) V 0<|tc 5 113 #[pg g] (rdBool X) ?_
 rintro _ w1 ⟨rfl,X,B⟩;refine⟨_,rfl,tz 1<|ts (R.chg (But.chg B) a) o (.bool (rdV false (bX l) err)) [.bool (rdV false (bX l) err)] _ ?_ (hb:=Nat.ble_eq_true_of_le ho)⟩;intro d Y C;refine aO<|bh (.tuple #[]) (rs0 (h:=c)) ?_
 exact⟨rfl,w1,Y,C,by show RdA w1 g b (rdE (et l) err) (rdL (et l) err l);rw[tB,sm];exact X,B⟩
theorem rd_any(K:Lk f Tryz.f240)(X:RdA w g b err l)(V:Blk w vb [pg g] vt)(R:Blk w rb cs T)(a:rb≠g)(ho:o < cs.length):CP f #[pq rb o,pg vb] w λe w'=>e=.returned (.tuple #[])/\∃ w1 ao n c,Blk w' rb (spl cs o [.slice ao n c]) T/\Chg (· = rb) w1 w'/\dD w1 w.heap.size ao n c (rdV 0 (p1 2 l) err)/\n<=255/\RdA w1 g b (rdE (p1 2 l) err) (rdL (p1 2 l) err l)/\But g w w1:=by
 obtain⟨⟨fn,hf,hb,hn,j⟩,-⟩:=K;refine af (n:=7) (hn:=hn) hf (hb.trans rfl) ?_
 refine aN<|tz 1<|tl 4 (pg g) V 0<|tc 5 115 #[pg g] (rdDecW X) ?_
 rintro _ w1 ⟨a1,i,d1,rfl,N,d,X,B⟩;refine⟨_,rfl,tz 1<|ts (R.chg (But.chg B) a) o (.agg #[.slice a1 i d1]) [.slice a1 i d1] _ ?_ (hb:=Nat.ble_eq_true_of_le ho)⟩;intro k Y C;refine aO<|bh (.tuple #[]) (rs0 (h:=j)) ?_
 exact⟨rfl,w1,a1,i,d1,Y,C,N,d,X,B⟩
theorem kz{B:Nat}(ks:List Nat)(v:Lk f1 Tryz.f238)(r:Lk f2 Tryz.f239)(q:Lk f3 Tryz.f240):HC RSt (λs w=>RI w0 B g b vb rb (λo=>ks.getD o 9) ks.length T vt s w/\B<=w.heap.size) (λy=>y=g\/y=rb) rb f1 f2 f3 (pg vb) rnx (λo=>ks.getD o 9) (λ_=>True) where
 oks:=λ_ _ _ _=>trivial
 keep:=λs w n h i=>by
  obtain⟨h,c⟩:=h;obtain⟨cs,j,f,k⟩:=h.rc;exact⟨⟨h.rd.keep i,h.var.keep i,⟨cs,j,f.keep i,k.off i.size (λy _ hy=>i.block y hy)⟩,h.bel.trans (i.mono h.bel.size),h.s1,h.s2,h.s3,h.s4,h.g1,h.r1,h.g0,h.r0⟩,Nat.le_trans c i.size⟩
 old:=λs w y h e=>by
  have:=h.1.g1;have:=h.1.r1;have:=h.2;rcases e with e | e<;>omega
 e1:=v.en
 e2:=r.en
 e3:=q.en
 u:=λs w o h _ hk=>by
  obtain⟨h,c⟩:=h;obtain⟨cs,j,f,k⟩:=h.rc;have m:=qz ks hk;refine(rn_any v h.rd h.var f h.s1 (by omega)).mono ?_
  rintro e n ⟨rfl,p,Y,C,X,l⟩;obtain⟨r1,a⟩:=h.step j k hk m X l Y C (.inl ⟨rfl,rfl⟩);exact⟨rfl,⟨r1,Nat.le_trans c a.size⟩,a⟩
 t:=λs w o h _ hk=>by
  obtain⟨h,c⟩:=h;obtain⟨cs,j,f,k⟩:=h.rc;have m:=qz ks hk;refine(rt_any r h.rd h.var f h.s1 (by omega)).mono ?_
  rintro e n ⟨rfl,p,Y,C,X,l⟩;obtain⟨r1,a⟩:=h.step j k hk m X l Y C (x:=rdV 0 (p1 1 s.2.1) s.1) (.inr (.inl ⟨rfl,_,rfl,sf _ _⟩));exact⟨rfl,⟨r1,Nat.le_trans c a.size⟩,a⟩
 d:=λs w o h _ hk=>by
  obtain⟨h,c⟩:=h;obtain⟨cs,j,f,k⟩:=h.rc;have m:=qz ks hk;refine(rd_any q h.rd h.var f h.s1 (by omega)).mono ?_
  rintro e n ⟨rfl,p,a1,A,c1,Y,C,z,hn,X,l⟩;obtain⟨r1,a⟩:=h.step j k hk m X l Y C (x:=rdV 0 (p1 2 s.2.1) s.1) (.inr (.inr ⟨rfl,_,_,_,rfl,z.low c,hn⟩));exact⟨rfl,⟨r1,Nat.le_trans c a.size⟩,a⟩
end
end
section
variable {w:World}{B:Nat}{kd:Nat->Nat}{cs:List Value}{xs:Nat->Int}{ks:List Nat}{l:List Int}
theorem FL{α:Type}(p:Int ⊕ α × Nat)(err:Int)(l:List Int):(rdL p err l).length<=l.length:=by
 unfold rdL;split
 ·cases p
  ·exact Nat.le_refl _
  simp
 exact Nat.le_refl _
theorem Fb(ks:List (Nat × Nat)):∀ s:RSt,(thr rnx ks s).2.1.length<=s.2.1.length:=by
 induction ks with
 | nil=>intro s;exact Nat.le_refl _
 | cons p ks ih =>
  intro s
  have e:thr rnx (p :: ks) s=thr rnx ks (rnx p.1 p.2 s):=rfl;rw[e];exact Nat.le_trans (ih _) (FL _ _ _)
structure iQ(w:World)(kd:Nat->Nat)(len:Nat)(mk:List Value->Value)(s:RSt)(e:Ending)(w':World):Prop where
 ex:∃ cs xs r,e=.returned (.tuple #[mk cs,.int .i64 r])/\cs.length=len/\lC w' w.heap.size kd cs xs/\(bS s.1 s.2.1=0->r=0/\xs=s.2.2)/\(bS s.1 s.2.1≠0->r=80/\xs=λ_=>0)
 bel:BW w w'
theorem lC.low{B':Nat}(h:lC w B kd cs xs)(hB:B'<=B):lC w B' kd cs xs:=λo=>⟨(h o).1,(h o).2.1,λhk=>by
 obtain⟨ao,n,c,h1,h2,h3⟩:=(h o).2.2 hk
 exact⟨ao,n,c,h1,h2.low hB,h3⟩⟩
def mkA(cs:List Value):Value:=.agg cs.toArray
def zk:Nat->Value
 | 0=>.int .u64 0
 | 1=>.bool false
 | _=>.slice none 0 0
abbrev zs(ks:List Nat):List Value:=ks.map zk
theorem xG(ks:List Nat)(w:World)(B:Nat):lC w B (λo=>ks.getD o 9) (zs ks) (λ_=>0):=by
 intro o
 have h:∀ k,k≠9->ks.getD o 9=k->(zs ks)[o]?=some (zk k):=by
  intro k hk h;have a:=qz ks h (hk:=hk);rw[List.getD_eq_getElem?_getD,List.getElem?_eq_getElem a] at h;rw[List.getElem?_map,List.getElem?_eq_getElem a];exact congrArg (λx=>some (zk x)) h
 exact⟨λk=>h 0 (by decide) k,λk=>⟨false,h 1 (by decide) k,rfl⟩,λk=>⟨none,0,0,h 2 (by decide) k,ua _ _,by decide⟩⟩
theorem eN(F:lC w B (λo=>ks.getD o 9) cs xs)(hc:cs.length=ks.length)(hk:∀ k∈ks,k < 3:=by decide):cs.all (·.oneCell')=true:=by
 rw[List.all_eq_true];intro v hv;obtain⟨o,l,rfl⟩:=List.mem_iff_getElem.1 hv;have i:=hk (ks[o]'(by omega)) (List.getElem_mem _)
 have d:ks.getD o 9=ks[o]'(by omega):=by rw[List.getD_eq_getElem?_getD,List.getElem?_eq_getElem (by omega)];rfl
 have j:=List.getElem?_eq_getElem l;obtain⟨g,h,f⟩:=F o;rw[j] at g h f;rcases(show ks[o]'(by omega)=0\/ks[o]'(by omega)=1\/ks[o]'(by omega)=2 by omega) with e | e | e
 ·rw[Option.some.inj (g (d.trans e))];rfl
 ·obtain⟨b,hb,-⟩:=h (d.trans e);rw[Option.some.inj hb];rfl
 obtain⟨a,n,c,hb,-⟩:=f (d.trans e);rw[Option.some.inj hb];rfl
theorem mY(ks:List (Nat × Nat)){n:Nat}(hn:n<=1000000000)(a:l.length=n):(thr rnx ks (0,l,λ_=>(0:Int))).2.1.length<=9223372036854775807:=by
 have h:(thr rnx ks (0,l,λ_=>(0:Int))).2.1.length<=l.length:=Fb ks (0,l,λ_=>(0:Int));omega
end
section
variable {w v1 v2 v3 v4 v5 v6 v7 v8 v9:World} {g g1 g2 g3 g5 b' B:Nat} {T vt:TypeId} {l:List Int} {ks:List Nat} {cs:List Value} {st:RSt}
section
variable {xs:Nat->Int}
theorem nD(m:Blk v1 g1 (zs ks) T)(h1:w.heap.size<=g1)(j:BW w v1)(n:Blk v2 g2 (zs ks) T)(q:v1.heap.size<=g2)(f:BW v1 v2)(h:Blk v3 g3 (zs ks) T)(u:v2.heap.size<=g3)(c:BW v2 v3)(i:RdA v4 g b' 0 l)(r:v3.heap.size<=g)(hb:v3.heap.size<=b')(hb2:b' < v4.heap.size)(k:BW v3 v4)(s:v4.heap.size<=g5)(e:BW v4 v5)(Y:Blk v6 g5 [pg g] vt)(C:Chg (·=g5) v5 v6) :
  (RI w v6.heap.size g b' g5 g2 (λo=>ks.getD o 9) ks.length T vt (0,l,λ_=>(0:Int)) v6/\v6.heap.size<=v6.heap.size)/\Blk v6 g1 (zs ks) T/\Blk v6 g3 (zs ks) T/\g1≠g/\g1≠g2/\g3≠g/\g3≠g2/\w.heap.size<=g1/\g1 < v6.heap.size:=by
 have a1:=m.lt;have a2:=n.lt;have a3:=h.lt;have t:=i.lt;have s1:=j.size;have s2:=f.size;have s3:=c.size;have s4:=k.size;have v:=e.size;have p:=C.size;have a:=ae k e
 have hS:But g5 v5 v6:=⟨C.os,C.tape,C.output,C.size,λb hb d=>C.same b hb d⟩
 refine⟨⟨⟨(i.keep e).offW (by omega) (by omega) hS,Y,⟨_,by simp,((n.keep c).keep a).chg C (show g2≠g5 by omega),xG ks _ _⟩,aF (ae (ae (ae j f) c) a) C,by omega,by omega,by omega,by omega,by omega,by omega,by omega,by omega⟩,Nat.le_refl _⟩,(((m.keep f).keep c).keep a).chg C (show g1≠g5 by omega),(h.keep a).chg C (show g3≠g5 by omega),by omega,by omega,by omega,by omega,by omega,by omega⟩
theorem nh(f:Blk v6 g1 (zs ks) T)(i:Blk v6 g3 (zs ks) T)(c:g1≠g)(n2:g1≠g2)(b:g3≠g)(e:g3≠g2)(C:Chg (λy=>y=g\/y=g2) v6 v7)(R:Blk v7 g2 cs T)(d:g2≠g)(a:But g v7 v8):Blk v8 g1 (zs ks) T/\Blk v8 g2 cs T/\Blk v8 g3 (zs ks) T :=
 ⟨(f.chg C (λh=>h.elim c n2)).chg (But.chg a) c,R.chg (But.chg a) d,(i.chg C (λh=>h.elim b e)).chg (But.chg a) b⟩
theorem fY(I:RI w B g b' g5 g2 (λo=>ks.getD o 9) ks.length T vt st v7)(b:But g v7 v8)(C:Chg (·=g1) v8 v9)(h1:w.heap.size<=g1)(c:g1 < B)(F:lC v7 B (λo=>ks.getD o 9) cs xs):lC v9 w.heap.size (λo=>ks.getD o 9) cs xs/\BW w v9:=by
 have:=I.g1;refine⟨((F.off b.size (λy hy a=>b.block y a (by omega))).off C.size (λy hy a=>C.same y a (λe=>by have d:y=g1:=e;omega))).low (by omega),aF (b.below I.bel I.g0 (Nat.le_refl _)) C (h:=h1)⟩
end
end
section
variable {cs:List Value}{w:World}{bb n c:Nat}{ao:Option Addr}{l:List Int}
theorem ls1(h:cs.length=1):∃ y0,cs=[y0]:=match cs,h with
 | [y0],_=>⟨y0,rfl⟩
theorem ls2(h:cs.length=2):∃ y0 y1,cs=[y0,y1]:=match cs,h with
 | [y0,y1],_=>⟨y0,y1,rfl⟩
theorem Eh(h:cs.length=10):∃ y0 y1 y2 y3 y4 y5 y6 y7 y8 y9,cs=[y0,y1,y2,y3,y4,y5,y6,y7,y8,y9]:=match cs,h with
 | [y0,y1,y2,y3,y4,y5,y6,y7,y8,y9],_=>⟨y0,y1,y2,y3,y4,y5,y6,y7,y8,y9,rfl⟩
theorem sC(A:ByA w bb ao n c l)(hn:n<=1000000000)(W:l.length=n) :
  CP 191 #[.slice ao n c,.func (.func 128) #[] #[]] w (iQ w eH 10 mkA (thr rnx [(0,0),(0,1),(0,2),(0,3),(0,4),(0,5),(0,6),(0,7),(0,8),(0,9)] (0,l,λ_=>(0:Int)))):=by
 refine af (n:=22) Tryz.func191 rfl ?_
 refine sr<|ta 4 (zs [0,0,0,0,0,0,0,0,0,0]) 24 (pg) ?_
 intro v1 g1 H h1 v;refine tz 1<|nx<|ta 6 (zs [0,0,0,0,0,0,0,0,0,0]) 24 (pg) ?_
 intro v2 Z J Q z;refine ta 7 (zs [0,0,0,0,0,0,0,0,0,0]) 24 (pg) ?_
 intro v3 g3 X3 G y;refine nx<|tz 1<|tc 10 44 #[.slice ao n c] (kW (A.keep (ae (ae v z) y))) ?_
 rintro _ v4 ⟨g,b',rfl,⟨K,u,t⟩,E,O⟩;refine⟨_,rfl,ta 8 [.pointer none] 105 (pg) ?_⟩;intro v5 M X5 L B5;refine ts1 X5 (pg g) ?_
 intro v6 Y C;obtain⟨I,q,r,N,P,U,X,x,D⟩:=nD H h1 v J Q z X3 G y E K u t O L B5 Y C;refine nx<|tz 5<|tc 16 128 #[pg Z,.agg (hq 238 239 240 (pg M)).toArray] (kA (kz [0,0,0,0,0,0,0,0,0,0] ⟨⟨_,Tryz.func238,rfl,rfl,rfl⟩,λ_ _=>by kernel_rfl⟩ ⟨⟨_,Tryz.func239,rfl,rfl,rfl⟩,λ_ _=>by kernel_rfl⟩ ⟨⟨_,Tryz.func240,rfl,rfl,rfl⟩,λ_ _=>by kernel_rfl⟩) I trivial) ?_
 rintro _ v7 ⟨rfl,⟨I,-⟩,C⟩;obtain⟨cs,hc,R,F⟩:=I.rc;obtain⟨i,d,o,a,m,j,k,e,b,f,rfl⟩:=Eh hc;refine⟨_,rfl,nt<|ag<|sr<|tl 17 (pg g) I.var 0<|tc 18 49 #[pg g] (pb I.rd (mY _ hn W)) ?_⟩;rintro _ v8 ⟨rfl,-,s⟩;refine⟨_,rfl,?_⟩;obtain⟨q,V,r⟩:=nh q r N P U X C R I.s1 s;generalize thr rnx [(0,0),(0,1),(0,2),(0,3),(0,4),(0,5),(0,6),(0,7),(0,8),(0,9)] (0,l,λ_=>(0:Int))=st at *;by_cases p:bS st.1 st.2.1=0
 ·refine tq 19 (.bool (bS st.1 st.2.1 != 0)) (bF) (congrArg Value.bool (bne_eq_false_iff_eq.2 p))<|nt<|nk<|sr<|tlr 21 [i,d,o,a,m,j,k,e,b,f] V 0<|ts q 0 (.agg ([i,d,o,a,m,j,k,e,b,f]).toArray) [i,d,o,a,m,j,k,e,b,f] [i,d,o,a,m,j,k,e,b,f] ?_ (h1:=eN F hc)
  intro S Y C;refine tz 1<|nr<|ah (.tuple #[.agg ([i,d,o,a,m,j,k,e,b,f]).toArray,iI 0]) (dk (T:=24) 4 5 (lr Y 0)) ?_
  obtain⟨F,B⟩:=fY I s C x D F;exact⟨⟨_,_,0,rfl,rfl,F,λ_=>⟨rfl,rfl⟩,λh=>absurd p h⟩,B⟩
 refine tq 19 (.bool (bS st.1 st.2.1 != 0)) (bT) (congrArg Value.bool (bne_iff_ne.2 p))<|nt<|aL<|sr<|tlr 20 (zs [0,0,0,0,0,0,0,0,0,0]) r 0<|ts q 0 (.agg ((zs [0,0,0,0,0,0,0,0,0,0])).toArray) (zs [0,0,0,0,0,0,0,0,0,0]) (zs [0,0,0,0,0,0,0,0,0,0]) ?_
 intro S Y C;refine tz 1<|nr<|bE<|ah (.tuple #[.agg ((zs [0,0,0,0,0,0,0,0,0,0])).toArray,iI 80]) (dk (T:=24) 4 5 (lr Y 0)) ?_
 obtain⟨F,B⟩:=fY I s C x D (xG [0,0,0,0,0,0,0,0,0,0] _ _);exact⟨⟨_,_,80,rfl,rfl,F,λh=>absurd h p,λ_=>⟨rfl,rfl⟩⟩,B⟩
theorem yh(A:ByA w bb ao n c l)(hn:n<=1000000000)(v:l.length=n) :
  CP 364 #[.slice ao n c,.func (.func 363) #[] #[]] w (iQ w gW 1 mkA (thr rnx [(2,0)] (0,l,λ_=>(0:Int)))):=by
 refine af (n:=22) Tryz.func364 rfl ?_
 refine sr<|ta 4 (zs [2]) 55 (pg) ?_
 intro v1 g1 z h1 m;refine tz 1<|nx<|ta 6 (zs [2]) 55 (pg) ?_
 intro v2 H D r o;refine ta 7 (zs [2]) 55 (pg) ?_
 intro V Z K y k;refine nx<|tz 1<|tc 10 44 #[.slice ao n c] (kW (A.keep (ae (ae m o) k))) ?_
 rintro _ v4 ⟨g,X,rfl,⟨E,j,i⟩,x,P⟩;refine⟨_,rfl,ta 8 [.pointer none] 105 (pg) ?_⟩;intro W M L J N;refine ts1 L (pg g) ?_
 intro v6 Y C;obtain⟨I,b,e,O,Q,t,G,p,q⟩:=nD z h1 m D r o K y k x E j i P J N Y C;refine nx<|tz 5<|tc 16 363 #[pg H,.agg (hq 385 386 387 (pg M)).toArray] (nR (kz [2] ⟨⟨_,Tryz.func385,rfl,rfl,rfl⟩,λ_ _=>by kernel_rfl⟩ ⟨⟨_,Tryz.func386,rfl,rfl,rfl⟩,λ_ _=>by kernel_rfl⟩ ⟨⟨_,Tryz.func387,rfl,rfl,rfl⟩,λ_ _=>by kernel_rfl⟩) I trivial) ?_
 rintro _ S ⟨rfl,⟨I,-⟩,C⟩;obtain⟨cs,hc,R,F⟩:=I.rc;obtain⟨a,rfl⟩:=ls1 hc;refine⟨_,rfl,nt<|ag<|sr<|tl 17 (pg g) I.var 0<|tc 18 49 #[pg g] (pb I.rd (mY _ hn v)) ?_⟩;rintro _ U ⟨rfl,-,f⟩;refine⟨_,rfl,?_⟩;obtain⟨b,u,e⟩:=nh b e O Q t G C R I.s1 f;generalize thr rnx [(2,0)] (0,l,λ_=>(0:Int))=st at *;by_cases d:bS st.1 st.2.1=0
 ·refine tq 19 (.bool (bS st.1 st.2.1 != 0)) (bF) (congrArg Value.bool (bne_eq_false_iff_eq.2 d))<|nt<|nk<|sr<|tlr 21 [a] u 0<|ts b 0 (.agg ([a]).toArray) [a] [a] ?_ (h1:=eN F hc)
  intro s Y C;refine tz 1<|nr<|ah (.tuple #[.agg ([a]).toArray,iI 0]) (dk (T:=55) 4 5 (lr Y 0)) ?_
  obtain⟨F,B⟩:=fY I f C p q F;exact⟨⟨_,_,0,rfl,rfl,F,λ_=>⟨rfl,rfl⟩,λh=>absurd d h⟩,B⟩
 refine tq 19 (.bool (bS st.1 st.2.1 != 0)) (bT) (congrArg Value.bool (bne_iff_ne.2 d))<|nt<|aL<|sr<|tlr 20 (zs [2]) e 0<|ts b 0 (.agg ((zs [2])).toArray) (zs [2]) (zs [2]) ?_
 intro s Y C;refine tz 1<|nr<|bE<|ah (.tuple #[.agg ((zs [2])).toArray,iI 80]) (dk (T:=55) 4 5 (lr Y 0)) ?_
 obtain⟨F,B⟩:=fY I f C p q (xG [2] _ _);exact⟨⟨_,_,80,rfl,rfl,F,λh=>absurd h d,λ_=>⟨rfl,rfl⟩⟩,B⟩
theorem pY(A:ByA w bb ao n c l)(hn:n<=1000000000)(x:l.length=n) :
  CP 73 #[.slice ao n c,.func (.func 74) #[] #[]] w (iQ w ea 2 mkA (thr rnx [(0,0),(0,1)] (0,l,λ_=>(0:Int)))):=by
 refine af (n:=22) Tryz.func73 rfl ?_
 refine sr<|ta 4 (zs [0,0]) 50 (pg) ?_
 intro v1 g1 D h1 o;refine tz 1<|nx<|ta 6 (zs [0,0]) 50 (pg) ?_
 intro v2 J E s p;refine ta 7 (zs [0,0]) 50 (pg) ?_
 intro W g3 L z m;refine nx<|tz 1<|tc 10 44 #[.slice ao n c] (kW (A.keep (ae (ae o p) m))) ?_
 rintro _ v4 ⟨g,Z,rfl,⟨G,k,j⟩,y,Q⟩;refine⟨_,rfl,ta 8 [.pointer none] 105 (pg) ?_⟩;intro X N M K O;refine ts1 M (pg g) ?_
 intro v6 Y C;obtain⟨I,d,f,P,S,u,H,q,r⟩:=nD D h1 o E s p L z m y G k j Q K O Y C;refine nx<|tz 5<|tc 16 74 #[pg J,.agg (hq 111 112 114 (pg N)).toArray] (jc (kz [0,0] ⟨⟨_,Tryz.func111,rfl,rfl,rfl⟩,λ_ _=>by kernel_rfl⟩ ⟨⟨_,Tryz.func112,rfl,rfl,rfl⟩,λ_ _=>by kernel_rfl⟩ ⟨⟨_,Tryz.func114,rfl,rfl,rfl⟩,λ_ _=>by kernel_rfl⟩) I trivial) ?_
 rintro _ U ⟨rfl,⟨I,-⟩,C⟩;obtain⟨cs,hc,R,F⟩:=I.rc;obtain⟨a,b,rfl⟩:=ls2 hc;refine⟨_,rfl,nt<|ag<|sr<|tl 17 (pg g) I.var 0<|tc 18 49 #[pg g] (pb I.rd (mY _ hn x)) ?_⟩;rintro _ V ⟨rfl,-,i⟩;refine⟨_,rfl,?_⟩;obtain⟨d,v,f⟩:=nh d f P S u H C R I.s1 i;generalize thr rnx [(0,0),(0,1)] (0,l,λ_=>(0:Int))=st at *;by_cases e:bS st.1 st.2.1=0
 ·refine tq 19 (.bool (bS st.1 st.2.1 != 0)) (bF) (congrArg Value.bool (bne_eq_false_iff_eq.2 e))<|nt<|nk<|sr<|tlr 21 [a,b] v 0<|ts d 0 (.agg ([a,b]).toArray) [a,b] [a,b] ?_ (h1:=eN F hc)
  intro t Y C;refine tz 1<|nr<|ah (.tuple #[.agg ([a,b]).toArray,iI 0]) (dk (T:=50) 4 5 (lr Y 0)) ?_
  obtain⟨F,B⟩:=fY I i C q r F;exact⟨⟨_,_,0,rfl,rfl,F,λ_=>⟨rfl,rfl⟩,λh=>absurd e h⟩,B⟩
 refine tq 19 (.bool (bS st.1 st.2.1 != 0)) (bT) (congrArg Value.bool (bne_iff_ne.2 e))<|nt<|aL<|sr<|tlr 20 (zs [0,0]) f 0<|ts d 0 (.agg ((zs [0,0])).toArray) (zs [0,0]) (zs [0,0]) ?_
 intro t Y C;refine tz 1<|nr<|bE<|ah (.tuple #[.agg ((zs [0,0])).toArray,iI 80]) (dk (T:=50) 4 5 (lr Y 0)) ?_
 obtain⟨F,B⟩:=fY I i C q r (xG [0,0] _ _);exact⟨⟨_,_,80,rfl,rfl,F,λh=>absurd h e,λ_=>⟨rfl,rfl⟩⟩,B⟩
theorem Aa(A:ByA w bb ao n c l)(hn:n<=1000000000)(W:l.length=n) :
  CP 76 #[.slice ao n c,.func (.func 77) #[] #[]] w (iQ w jd 10 mkA (thr rnx [(0,0),(0,1),(2,2),(1,3),(0,4),(1,5),(0,6),(2,7),(2,8),(2,9)] (0,l,λ_=>(0:Int)))):=by
 refine af (n:=22) Tryz.func76 rfl ?_
 refine sr<|ta 4 (zs [0,0,2,1,0,1,0,2,2,2]) 57 (pg) ?_
 intro v1 g1 H h1 v;refine tz 1<|nx<|ta 6 (zs [0,0,2,1,0,1,0,2,2,2]) 57 (pg) ?_
 intro v2 Z J Q z;refine ta 7 (zs [0,0,2,1,0,1,0,2,2,2]) 57 (pg) ?_
 intro v3 g3 X3 G y;refine nx<|tz 1<|tc 10 44 #[.slice ao n c] (kW (A.keep (ae (ae v z) y))) ?_
 rintro _ v4 ⟨g,b',rfl,⟨K,u,t⟩,E,O⟩;refine⟨_,rfl,ta 8 [.pointer none] 105 (pg) ?_⟩;intro v5 M X5 L B5;refine ts1 X5 (pg g) ?_
 intro v6 Y C;obtain⟨I,q,r,N,P,U,X,x,D⟩:=nD H h1 v J Q z X3 G y E K u t O L B5 Y C;refine nx<|tz 5<|tc 16 77 #[pg Z,.agg (hq 117 118 119 (pg M)).toArray] (o6 (kz [0,0,2,1,0,1,0,2,2,2] ⟨⟨_,Tryz.func117,rfl,rfl,rfl⟩,λ_ _=>by kernel_rfl⟩ ⟨⟨_,Tryz.func118,rfl,rfl,rfl⟩,λ_ _=>by kernel_rfl⟩ ⟨⟨_,Tryz.func119,rfl,rfl,rfl⟩,λ_ _=>by kernel_rfl⟩) I trivial) ?_
 rintro _ v7 ⟨rfl,⟨I,-⟩,C⟩;obtain⟨cs,hc,R,F⟩:=I.rc;obtain⟨i,d,o,a,m,j,k,e,b,f,rfl⟩:=Eh hc;refine⟨_,rfl,nt<|ag<|sr<|tl 17 (pg g) I.var 0<|tc 18 49 #[pg g] (pb I.rd (mY _ hn W)) ?_⟩;rintro _ v8 ⟨rfl,-,s⟩;refine⟨_,rfl,?_⟩;obtain⟨q,V,r⟩:=nh q r N P U X C R I.s1 s;generalize thr rnx [(0,0),(0,1),(2,2),(1,3),(0,4),(1,5),(0,6),(2,7),(2,8),(2,9)] (0,l,λ_=>(0:Int))=st at *;by_cases p:bS st.1 st.2.1=0
 ·refine tq 19 (.bool (bS st.1 st.2.1 != 0)) (bF) (congrArg Value.bool (bne_eq_false_iff_eq.2 p))<|nt<|nk<|sr<|tlr 21 [i,d,o,a,m,j,k,e,b,f] V 0<|ts q 0 (.agg ([i,d,o,a,m,j,k,e,b,f]).toArray) [i,d,o,a,m,j,k,e,b,f] [i,d,o,a,m,j,k,e,b,f] ?_ (h1:=eN F hc)
  intro S Y C;refine tz 1<|nr<|ah (.tuple #[.agg ([i,d,o,a,m,j,k,e,b,f]).toArray,iI 0]) (dk (T:=57) 4 5 (lr Y 0)) ?_
  obtain⟨F,B⟩:=fY I s C x D F;exact⟨⟨_,_,0,rfl,rfl,F,λ_=>⟨rfl,rfl⟩,λh=>absurd p h⟩,B⟩
 refine tq 19 (.bool (bS st.1 st.2.1 != 0)) (bT) (congrArg Value.bool (bne_iff_ne.2 p))<|nt<|aL<|sr<|tlr 20 (zs [0,0,2,1,0,1,0,2,2,2]) r 0<|ts q 0 (.agg ((zs [0,0,2,1,0,1,0,2,2,2])).toArray) (zs [0,0,2,1,0,1,0,2,2,2]) (zs [0,0,2,1,0,1,0,2,2,2]) ?_
 intro S Y C;refine tz 1<|nr<|bE<|ah (.tuple #[.agg ((zs [0,0,2,1,0,1,0,2,2,2])).toArray,iI 80]) (dk (T:=57) 4 5 (lr Y 0)) ?_
 obtain⟨F,B⟩:=fY I s C x D (xG [0,0,2,1,0,1,0,2,2,2] _ _);exact⟨⟨_,_,80,rfl,rfl,F,λh=>absurd h p,λ_=>⟨rfl,rfl⟩⟩,B⟩
theorem qC(A:ByA w bb ao n c l)(hn:n<=1000000000)(x:l.length=n) :
  CP 262 #[.slice ao n c,.func (.func 263) #[] #[]] w (iQ w ec 2 mkA (thr rnx [(2,0),(0,1)] (0,l,λ_=>(0:Int)))):=by
 refine af (n:=22) Tryz.func262 rfl ?_
 refine sr<|ta 4 (zs [2,0]) 272 (pg) ?_
 intro v1 g1 D h1 o;refine tz 1<|nx<|ta 6 (zs [2,0]) 272 (pg) ?_
 intro v2 J E s p;refine ta 7 (zs [2,0]) 272 (pg) ?_
 intro W g3 L z m;refine nx<|tz 1<|tc 10 44 #[.slice ao n c] (kW (A.keep (ae (ae o p) m))) ?_
 rintro _ v4 ⟨g,Z,rfl,⟨G,k,j⟩,y,Q⟩;refine⟨_,rfl,ta 8 [.pointer none] 105 (pg) ?_⟩;intro X N M K O;refine ts1 M (pg g) ?_
 intro v6 Y C;obtain⟨I,d,f,P,S,u,H,q,r⟩:=nD D h1 o E s p L z m y G k j Q K O Y C;refine nx<|tz 5<|tc 16 263 #[pg J,.agg (hq 314 315 316 (pg N)).toArray] (iV (kz [2,0] ⟨⟨_,Tryz.func314,rfl,rfl,rfl⟩,λ_ _=>by kernel_rfl⟩ ⟨⟨_,Tryz.func315,rfl,rfl,rfl⟩,λ_ _=>by kernel_rfl⟩ ⟨⟨_,Tryz.func316,rfl,rfl,rfl⟩,λ_ _=>by kernel_rfl⟩) I trivial) ?_
 rintro _ U ⟨rfl,⟨I,-⟩,C⟩;obtain⟨cs,hc,R,F⟩:=I.rc;obtain⟨a,b,rfl⟩:=ls2 hc;refine⟨_,rfl,nt<|ag<|sr<|tl 17 (pg g) I.var 0<|tc 18 49 #[pg g] (pb I.rd (mY _ hn x)) ?_⟩;rintro _ V ⟨rfl,-,i⟩;refine⟨_,rfl,?_⟩;obtain⟨d,v,f⟩:=nh d f P S u H C R I.s1 i;generalize thr rnx [(2,0),(0,1)] (0,l,λ_=>(0:Int))=st at *;by_cases e:bS st.1 st.2.1=0
 ·refine tq 19 (.bool (bS st.1 st.2.1 != 0)) (bF) (congrArg Value.bool (bne_eq_false_iff_eq.2 e))<|nt<|nk<|sr<|tlr 21 [a,b] v 0<|ts d 0 (.agg ([a,b]).toArray) [a,b] [a,b] ?_ (h1:=eN F hc)
  intro t Y C;refine tz 1<|nr<|ah (.tuple #[.agg ([a,b]).toArray,iI 0]) (dk (T:=272) 4 5 (lr Y 0)) ?_
  obtain⟨F,B⟩:=fY I i C q r F;exact⟨⟨_,_,0,rfl,rfl,F,λ_=>⟨rfl,rfl⟩,λh=>absurd e h⟩,B⟩
 refine tq 19 (.bool (bS st.1 st.2.1 != 0)) (bT) (congrArg Value.bool (bne_iff_ne.2 e))<|nt<|aL<|sr<|tlr 20 (zs [2,0]) f 0<|ts d 0 (.agg ((zs [2,0])).toArray) (zs [2,0]) (zs [2,0]) ?_
 intro t Y C;refine tz 1<|nr<|bE<|ah (.tuple #[.agg ((zs [2,0])).toArray,iI 80]) (dk (T:=272) 4 5 (lr Y 0)) ?_
 obtain⟨F,B⟩:=fY I i C q r (xG [2,0] _ _);exact⟨⟨_,_,80,rfl,rfl,F,λh=>absurd h e,λ_=>⟨rfl,rfl⟩⟩,B⟩
end
section
variable {w:World}{x0 x1 x2 x4 x6 x7 x8 x9:Int}{bb n c n0 c0 n2 c2:Nat}{ao a0 a2 a7 a8 a9:Option Addr}{l:List Int}
theorem oL{x3:Int}{x5:Int} :
  CP 88 #[.agg #[iU x0,iU x1,iU x2,iU x3,iU x4,iU x5,iU x6,iU x7,iU x8,iU x9]] w λe w'=>∃ b n,e=.returned (.slice (some ⟨b,0,none⟩) n n)/\n=(thr (pnx (λo=>([x0,x1,x2,x3,x4,x5,x6,x7,x8,x9]:List Int).getD o 0)) [(0,0),(0,1),(0,2),(0,3),(0,4),(0,5),(0,6),(0,7),(0,8),(0,9)] []).length/\Box w' b ((thr (pnx (λo=>([x0,x1,x2,x3,x4,x5,x6,x7,x8,x9]:List Int).getD o 0)) [(0,0),(0,1),(0,2),(0,3),(0,4),(0,5),(0,6),(0,7),(0,8),(0,9)] []).map (Value.int .u8)) 5/\w.heap.size<=b/\BW w w':=by
 refine af (n:=5) Tryz.func88 rfl ?_
 refine sr<|ta 1 [.int .u64 x0,.int .u64 x1,.int .u64 x2,.int .u64 x3,.int .u64 x4,.int .u64 x5,.int .u64 x6,.int .u64 x7,.int .u64 x8,.int .u64 x9] 24 (pg) ?_
 intro v1 g1 c q1 a;refine tz 1<|nx<|tlr 3 [.int .u64 x0,.int .u64 x1,.int .u64 x2,.int .u64 x3,.int .u64 x4,.int .u64 x5,.int .u64 x6,.int .u64 x7,.int .u64 x8,.int .u64 x9] c 0<|tc 4 127 #[.agg #[.int .u64 x0,.int .u64 x1,.int .u64 x2,.int .u64 x3,.int .u64 x4,.int .u64 x5,.int .u64 x6,.int .u64 x7,.int .u64 x8,.int .u64 x9],.func (.func 128) #[] #[]] (uG) ?_
 rintro _ v2 ⟨b,n,rfl,hn,X,hb,d⟩;refine⟨_,rfl,tz 1<|nr<|ah (.slice (some ⟨b,0,none⟩) n n) (rs1 2) ?_⟩;exact⟨b,n,rfl,hn,X,Nat.le_trans a.size hb,ae a d⟩
theorem vr(A:ByA w bb ao n c l)(hn:n<=1000000000)(v:l.length=n) :
  CP 145 #[.slice ao n c] w (iQ w eH 10 mkA (thr rnx [(0,0),(0,1),(0,2),(0,3),(0,4),(0,5),(0,6),(0,7),(0,8),(0,9)] (0,l,λ_=>(0:Int)))):=by
 refine af (n:=8) Tryz.func145 rfl ?_
 refine sr<|ta 2 (zs [0,0,0,0,0,0,0,0,0,0]) 24 (pg) ?_
 intro v1 g1 s q1 p;refine tz 1<|nx<|tz 1<|tc 5 191 #[.slice ao n c,.func (.func 128) #[] #[]] (sC (A.keep p) hn v) ?_
 rintro _ v2 ⟨⟨cs,xs,r,rfl,hc,F,x,u⟩,t⟩;obtain⟨g,i,o,b,m,j,k,a,d,f,rfl⟩:=Eh hc;have l1:=s.lt;refine⟨_,rfl,tz 2<|ts (s.keep t) 0 (.agg ([g,i,o,b,m,j,k,a,d,f]).toArray) [g,i,o,b,m,j,k,a,d,f] [g,i,o,b,m,j,k,a,d,f] ?_ (h1:=eN (ks:=[0,0,0,0,0,0,0,0,0,0]) F hc)⟩;intro z Y C;refine tz 1<|nr<|ah (.tuple #[.agg ([g,i,o,b,m,j,k,a,d,f]).toArray,.int .i64 r]) (dk (T:=24) 2 3 (lr Y 0)) ?_
 exact⟨⟨_,xs,r,rfl,rfl,(F.off C.size (λy hy q=>C.same y q (λe=>by have B:y=g1:=e;omega))).low p.size,x,u⟩,aF (ae p t) C (h:=q1)⟩
theorem qh :
  CP 89 #[.agg #[iU x0,iU x1]] w λe w'=>∃ b n,e=.returned (.slice (some ⟨b,0,none⟩) n n)/\n=(thr (pnx (λo=>([x0,x1]:List Int).getD o 0)) [(0,0),(0,1)] []).length/\Box w' b ((thr (pnx (λo=>([x0,x1]:List Int).getD o 0)) [(0,0),(0,1)] []).map (Value.int .u8)) 5/\w.heap.size<=b/\BW w w':=by
 refine af (n:=5) Tryz.func89 rfl ?_
 refine sr<|ta 1 [.int .u64 x0,.int .u64 x1] 138 (pg) ?_
 intro v1 g1 c q1 a;refine tz 1<|nx<|tlr 3 [.int .u64 x0,.int .u64 x1] c 0<|tc 4 129 #[.agg #[.int .u64 x0,.int .u64 x1],.func (.func 130) #[] #[]] (yK) ?_
 rintro _ v2 ⟨b,n,rfl,hn,X,hb,d⟩;refine⟨_,rfl,tz 1<|nr<|ah (.slice (some ⟨b,0,none⟩) n n) (rs1 2) ?_⟩;exact⟨b,n,rfl,hn,X,Nat.le_trans a.size hb,ae a d⟩
theorem tO(h0:aW w a0 n0 c0 x0)(m0:n0<=1000000) :
  CP 337 #[.agg #[.slice a0 n0 c0]] w λe w'=>∃ b n,e=.returned (.slice (some ⟨b,0,none⟩) n n)/\n=(thr (pnx (λo=>([x0]:List Int).getD o 0)) [(2,0)] []).length/\Box w' b ((thr (pnx (λo=>([x0]:List Int).getD o 0)) [(2,0)] []).map (Value.int .u8)) 5/\w.heap.size<=b/\BW w w':=by
 refine af (n:=5) Tryz.func337 rfl ?_
 refine sr<|ta 1 [.slice a0 n0 c0] 55 (pg) ?_
 intro v1 g1 c q1 a;refine tz 1<|nx<|tlr 3 [.slice a0 n0 c0] c 0<|tc 4 362 #[.agg #[.slice a0 n0 c0],.func (.func 363) #[] #[]] (Dr (h0.keep a) m0) ?_
 rintro _ v2 ⟨b,n,rfl,hn,X,hb,d⟩;refine⟨_,rfl,tz 1<|nr<|ah (.slice (some ⟨b,0,none⟩) n n) (rs1 2) ?_⟩;exact⟨b,n,rfl,hn,X,Nat.le_trans a.size hb,ae a d⟩
theorem Ca(A:ByA w bb ao n c l)(hn:n<=1000000000)(j:l.length=n) :
  CP 339 #[.slice ao n c] w (iQ w gW 1 mkA (thr rnx [(2,0)] (0,l,λ_=>(0:Int)))):=by
 refine af (n:=8) Tryz.func339 rfl ?_
 refine sr<|ta 2 (zs [2]) 55 (pg) ?_
 intro v1 g1 f q1 b;refine tz 1<|nx<|tz 1<|tc 5 364 #[.slice ao n c,.func (.func 363) #[] #[]] (yh (A.keep b) hn j) ?_
 rintro _ v2 ⟨⟨cs,xs,r,rfl,hc,F,k,i⟩,g⟩;obtain⟨a,rfl⟩:=ls1 hc;have l1:=f.lt;refine⟨_,rfl,tz 2<|ts (f.keep g) 0 (.agg ([a]).toArray) [a] [a] ?_ (h1:=eN (ks:=[2]) F hc)⟩;intro m Y C;refine tz 1<|nr<|ah (.tuple #[.agg ([a]).toArray,.int .i64 r]) (dk (T:=55) 2 3 (lr Y 0)) ?_
 exact⟨⟨_,xs,r,rfl,rfl,(F.off C.size (λy hy d=>C.same y d (λe=>by have o:y=g1:=e;omega))).low b.size,k,i⟩,aF (ae b g) C (h:=q1)⟩
theorem mE :
  CP 132 #[.agg #[iU x0,iU x1]] w λe w'=>∃ b n,e=.returned (.slice (some ⟨b,0,none⟩) n n)/\n=(thr (pnx (λo=>([x0,x1]:List Int).getD o 0)) [(0,0),(0,1)] []).length/\Box w' b ((thr (pnx (λo=>([x0,x1]:List Int).getD o 0)) [(0,0),(0,1)] []).map (Value.int .u8)) 5/\w.heap.size<=b/\BW w w':=by
 refine af (n:=5) Tryz.func132 rfl ?_
 refine sr<|ta 1 [.int .u64 x0,.int .u64 x1] 50 (pg) ?_
 intro v1 g1 c q1 a;refine tz 1<|nx<|tlr 3 [.int .u64 x0,.int .u64 x1] c 0<|tc 4 172 #[.agg #[.int .u64 x0,.int .u64 x1],.func (.func 74) #[] #[]] (tf) ?_
 rintro _ v2 ⟨b,n,rfl,hn,X,hb,d⟩;refine⟨_,rfl,tz 1<|nr<|ah (.slice (some ⟨b,0,none⟩) n n) (rs1 2) ?_⟩;exact⟨b,n,rfl,hn,X,Nat.le_trans a.size hb,ae a d⟩
theorem rP(A:ByA w bb ao n c l)(hn:n<=1000000000)(k:l.length=n) :
  CP 41 #[.slice ao n c] w (iQ w ea 2 mkA (thr rnx [(0,0),(0,1)] (0,l,λ_=>(0:Int)))):=by
 refine af (n:=8) Tryz.func41 rfl ?_
 refine sr<|ta 2 (zs [0,0]) 50 (pg) ?_
 intro v1 g1 g q1 d;refine tz 1<|nx<|tz 1<|tc 5 73 #[.slice ao n c,.func (.func 74) #[] #[]] (pY (A.keep d) hn k) ?_
 rintro _ v2 ⟨⟨cs,xs,r,rfl,hc,F,m,j⟩,i⟩;obtain⟨a,b,rfl⟩:=ls2 hc;have l1:=g.lt;refine⟨_,rfl,tz 2<|ts (g.keep i) 0 (.agg ([a,b]).toArray) [a,b] [a,b] ?_ (h1:=eN (ks:=[0,0]) F hc)⟩;intro o Y C;refine tz 1<|nr<|ah (.tuple #[.agg ([a,b]).toArray,.int .i64 r]) (dk (T:=50) 2 3 (lr Y 0)) ?_
 exact⟨⟨_,xs,r,rfl,rfl,(F.off C.size (λy hy f=>C.same y f (λe=>by have p:y=g1:=e;omega))).low d.size,m,j⟩,aF (ae d i) C (h:=q1)⟩
theorem ui{b3:Bool}{b5:Bool}{n7 c7:Nat}{n8 c8:Nat}{n9 c9:Nat}(c:aW w a2 n2 c2 x2)(i:n2<=1000000)(k:aW w a7 n7 c7 x7)(d:n7<=1000000)(f:aW w a8 n8 c8 x8)(m:n8<=1000000)(l:aW w a9 n9 c9 x9)(j:n9<=1000000) :
  CP 199 #[.agg #[iU x0,iU x1,.slice a2 n2 c2,.bool b3,iU x4,.bool b5,iU x6,.slice a7 n7 c7,.slice a8 n8 c8,.slice a9 n9 c9]] w λe w'=>∃ b n,e=.returned (.slice (some ⟨b,0,none⟩) n n)/\n=(thr (pnx (λo=>([x0,x1,x2,(if b3 then 1 else 0),x4,(if b5 then 1 else 0),x6,x7,x8,x9]:List Int).getD o 0)) [(0,0),(0,1),(2,2),(1,3),(0,4),(1,5),(0,6),(2,7),(2,8),(2,9)] []).length/\Box w' b ((thr (pnx (λo=>([x0,x1,x2,(if b3 then 1 else 0),x4,(if b5 then 1 else 0),x6,x7,x8,x9]:List Int).getD o 0)) [(0,0),(0,1),(2,2),(1,3),(0,4),(1,5),(0,6),(2,7),(2,8),(2,9)] []).map (Value.int .u8)) 5/\w.heap.size<=b/\BW w w':=by
 refine af (n:=5) Tryz.func199 rfl ?_
 refine sr<|ta 1 [.int .u64 x0,.int .u64 x1,.slice a2 n2 c2,.bool b3,.int .u64 x4,.bool b5,.int .u64 x6,.slice a7 n7 c7,.slice a8 n8 c8,.slice a9 n9 c9] 57 (pg) ?_
 intro v1 g1 g q1 a;refine tz 1<|nx<|tlr 3 [.int .u64 x0,.int .u64 x1,.slice a2 n2 c2,.bool b3,.int .u64 x4,.bool b5,.int .u64 x6,.slice a7 n7 c7,.slice a8 n8 c8,.slice a9 n9 c9] g 0<|tc 4 249 #[.agg #[.int .u64 x0,.int .u64 x1,.slice a2 n2 c2,.bool b3,.int .u64 x4,.bool b5,.int .u64 x6,.slice a7 n7 c7,.slice a8 n8 c8,.slice a9 n9 c9],.func (.func 77) #[] #[]] (EO (c.keep a) i (k.keep a) d (f.keep a) m (l.keep a) j) ?_
 rintro _ v2 ⟨b,n,rfl,hn,X,hb,h⟩;refine⟨_,rfl,tz 1<|nr<|ah (.slice (some ⟨b,0,none⟩) n n) (rs1 2) ?_⟩;exact⟨b,n,rfl,hn,X,Nat.le_trans a.size hb,ae a h⟩
theorem F5(A:ByA w bb ao n c l)(hn:n<=1000000000)(v:l.length=n) :
  CP 43 #[.slice ao n c] w (iQ w jd 10 mkA (thr rnx [(0,0),(0,1),(2,2),(1,3),(0,4),(1,5),(0,6),(2,7),(2,8),(2,9)] (0,l,λ_=>(0:Int)))):=by
 refine af (n:=8) Tryz.func43 rfl ?_
 refine sr<|ta 2 (zs [0,0,2,1,0,1,0,2,2,2]) 57 (pg) ?_
 intro v1 g1 s q1 p;refine tz 1<|nx<|tz 1<|tc 5 76 #[.slice ao n c,.func (.func 77) #[] #[]] (Aa (A.keep p) hn v) ?_
 rintro _ v2 ⟨⟨cs,xs,r,rfl,hc,F,x,u⟩,t⟩;obtain⟨g,i,o,b,m,j,k,a,d,f,rfl⟩:=Eh hc;have l1:=s.lt;refine⟨_,rfl,tz 2<|ts (s.keep t) 0 (.agg ([g,i,o,b,m,j,k,a,d,f]).toArray) [g,i,o,b,m,j,k,a,d,f] [g,i,o,b,m,j,k,a,d,f] ?_ (h1:=eN (ks:=[0,0,2,1,0,1,0,2,2,2]) F hc)⟩;intro z Y C;refine tz 1<|nr<|ah (.tuple #[.agg ([g,i,o,b,m,j,k,a,d,f]).toArray,.int .i64 r]) (dk (T:=57) 2 3 (lr Y 0)) ?_
 exact⟨⟨_,xs,r,rfl,rfl,(F.off C.size (λy hy q=>C.same y q (λe=>by have B:y=g1:=e;omega))).low p.size,x,u⟩,aF (ae p t) C (h:=q1)⟩
theorem kB(h0:aW w a0 n0 c0 x0)(m0:n0<=1000000)(d:aW w a2 n2 c2 x2)(c:n2<=1000000) :
  CP 291 #[.agg #[.slice a0 n0 c0,iU x1,.slice a2 n2 c2]] w λe w'=>∃ b n,e=.returned (.slice (some ⟨b,0,none⟩) n n)/\n=(thr (pnx (λo=>([x0,x1,x2]:List Int).getD o 0)) [(2,0),(0,1),(2,2)] []).length/\Box w' b ((thr (pnx (λo=>([x0,x1,x2]:List Int).getD o 0)) [(2,0),(0,1),(2,2)] []).map (Value.int .u8)) 5/\w.heap.size<=b/\BW w w':=by
 refine af (n:=5) Tryz.func291 rfl ?_
 refine sr<|ta 1 [.slice a0 n0 c0,.int .u64 x1,.slice a2 n2 c2] 181 (pg) ?_
 intro v1 g1 f q1 a;refine tz 1<|nx<|tlr 3 [.slice a0 n0 c0,.int .u64 x1,.slice a2 n2 c2] f 0<|tc 4 340 #[.agg #[.slice a0 n0 c0,.int .u64 x1,.slice a2 n2 c2],.func (.func 341) #[] #[]] (mQ (h0.keep a) m0 (d.keep a) c) ?_
 rintro _ v2 ⟨b,n,rfl,hn,X,hb,g⟩;refine⟨_,rfl,tz 1<|nr<|ah (.slice (some ⟨b,0,none⟩) n n) (rs1 2) ?_⟩;exact⟨b,n,rfl,hn,X,Nat.le_trans a.size hb,ae a g⟩
theorem nX(h0:aW w a0 n0 c0 x0)(m0:n0<=1000000) :
  CP 221 #[.agg #[.slice a0 n0 c0,iU x1]] w λe w'=>∃ b n,e=.returned (.slice (some ⟨b,0,none⟩) n n)/\n=(thr (pnx (λo=>([x0,x1]:List Int).getD o 0)) [(2,0),(0,1)] []).length/\Box w' b ((thr (pnx (λo=>([x0,x1]:List Int).getD o 0)) [(2,0),(0,1)] []).map (Value.int .u8)) 5/\w.heap.size<=b/\BW w w':=by
 refine af (n:=5) Tryz.func221 rfl ?_
 refine sr<|ta 1 [.slice a0 n0 c0,.int .u64 x1] 272 (pg) ?_
 intro v1 g1 c q1 a;refine tz 1<|nx<|tlr 3 [.slice a0 n0 c0,.int .u64 x1] c 0<|tc 4 264 #[.agg #[.slice a0 n0 c0,.int .u64 x1],.func (.func 263) #[] #[]] (tK (h0.keep a) m0) ?_
 rintro _ v2 ⟨b,n,rfl,hn,X,hb,d⟩;refine⟨_,rfl,tz 1<|nr<|ah (.slice (some ⟨b,0,none⟩) n n) (rs1 2) ?_⟩;exact⟨b,n,rfl,hn,X,Nat.le_trans a.size hb,ae a d⟩
theorem sD(A:ByA w bb ao n c l)(hn:n<=1000000000)(k:l.length=n) :
  CP 220 #[.slice ao n c] w (iQ w ec 2 mkA (thr rnx [(2,0),(0,1)] (0,l,λ_=>(0:Int)))):=by
 refine af (n:=8) Tryz.func220 rfl ?_
 refine sr<|ta 2 (zs [2,0]) 272 (pg) ?_
 intro v1 g1 g q1 d;refine tz 1<|nx<|tz 1<|tc 5 262 #[.slice ao n c,.func (.func 263) #[] #[]] (qC (A.keep d) hn k) ?_
 rintro _ v2 ⟨⟨cs,xs,r,rfl,hc,F,m,j⟩,i⟩;obtain⟨a,b,rfl⟩:=ls2 hc;have l1:=g.lt;refine⟨_,rfl,tz 2<|ts (g.keep i) 0 (.agg ([a,b]).toArray) [a,b] [a,b] ?_ (h1:=eN (ks:=[2,0]) F hc)⟩;intro o Y C;refine tz 1<|nr<|ah (.tuple #[.agg ([a,b]).toArray,.int .i64 r]) (dk (T:=272) 2 3 (lr Y 0)) ?_
 exact⟨⟨_,xs,r,rfl,rfl,(F.off C.size (λy hy f=>C.same y f (λe=>by have p:y=g1:=e;omega))).low d.size,m,j⟩,aF (ae d i) C (h:=q1)⟩
end
end Rc
end
section
namespace Rc
open Go.RowKit Go.Lib Pg Lim
section
variable {l r:List Int}{m:Nat}{x:Int}
theorem sv(m:Nat)(l:List Int):(fP m l).length=m+l.length:=by
 unfold fP;rw[List.length_append,ax]
theorem iy(h:l.length=m):(l ++ r).take m=l/\(l ++ r).drop m=r:=by
 subst h;exact⟨List.take_left,List.drop_left⟩
theorem Bt(m:Nat)(hx:0<=x)(r:List Int):cA m (be m x ++ r)=.inr (x % 256 ^ m,m)/\(be m x ++ r).drop m=r:=by
 have h:=iy (r:=r) (ax m x);refine⟨?_,h.2⟩;unfold cA;rw[if_pos (by rw[List.length_append,ax];omega),h.1,kR m hx]
theorem EU(hl:(l.length:Int) < 256 ^ m):cE m (fP m l ++ r)=l.length:=by
 unfold cE fP;rw[List.append_assoc,(iy (ax m _)).1,kR m (by omega),Int.emod_eq_of_lt (by omega) hl];rfl
theorem Ad(m:Nat)(l r:List Int):(fP m l ++ r).drop m=l ++ r:=by
 unfold fP;rw[List.append_assoc,(iy (ax m _)).2]
theorem Bh{V:Int}(g:0<=V)(h:(eb V).length < 256)(r:List Int):cS (fP 1 (eb V) ++ r)=.inr (V,1+(eb V).length)/\(fP 1 (eb V) ++ r).drop (1+(eb V).length)=r:=by
 have hc:cE 1 (fP 1 (eb V) ++ r)=(eb V).length:=EU (by simpa using (by omega:((eb V).length:Int) < 256));have b:=Ad 1 (eb V) r;have d:=pV g;refine⟨?_,?_⟩
 ·unfold cS;rw[if_pos (by rw[List.length_append,sv];omega),hc,if_pos (by rw[List.length_append,sv];omega),b,if_neg,(iy rfl).1,d.2.2];rintro⟨c,f⟩
  have a:eb V≠[]:=λe=>by rw[e] at c;simp at c
  refine d.2.1 a ?_
  rw[<- f]
  cases hh:eb V with
  | nil=>exact absurd hh a
  | cons x t=>rfl
 rw[<- List.drop_drop,b,(iy rfl).2]
theorem yT(x:Bool)(r:List Int):bX (be 1 (if x then 1 else 0) ++ r)=.inr (x,1)/\(be 1 (if x then 1 else 0) ++ r).drop 1=r:=by
 cases x
 ·exact⟨rfl,rfl⟩
 exact⟨rfl,rfl⟩
theorem one1(h:aJ l)(k:Nat)(he:rdE (p1 k l) 0=0):gZ k (rdV 0 (p1 k l) 0) ++ rdL (p1 k l) 0 l=l/\∃ m,rdL (p1 k l) 0 l=l.drop m:=by
 match k with
 | 0 =>
  rcases Ew h 8 with⟨h1,_⟩ | ⟨_,m,h2,h3,h4⟩
  ·exact absurd he h1
  show be 8 (rdV 0 (cA 8 l) 0) ++ rdL (cA 8 l) 0 l=l/\∃ m,rdL (cA 8 l) 0 l=l.drop m
  rw[h3,h4];exact⟨List.take_append_drop m l,m,rfl⟩
 | 1 =>
  have a:rdE (bX l) 0=0:=by rw[<- tB];exact he
  rcases Dj h with⟨h1,_⟩ | ⟨_,m,h2,h3,h4⟩
  ·exact absurd a h1
  show be 1 (rdV 0 (et l) 0) ++ rdL (et l) 0 l=l/\∃ m,rdL (et l) 0 l=l.drop m
  rw[sf,sm,h3,h4];exact⟨List.take_append_drop m l,m,rfl⟩
 | k + 2 =>
  rcases Ft h with⟨h1,_⟩ | ⟨_,m,h2,⟨h3,h5⟩,h4⟩
  ·exact absurd he h1
  show fP 1 (eb (fit (rdV 0 (cS l) 0))) ++ rdL (cS l) 0 l=l/\∃ m,rdL (cS l) 0 l=l.drop m
  have hf:(eb (rdV 0 (cS l) 0)).length < 256:=by
   unfold iR at h3;split at h3
   ·assumption
   exact absurd h3 (by decide)
  have e:=h5 [];unfold j7 wrote at e;rw[if_pos hf,if_pos rfl] at e;unfold fit;rw[if_pos hf];simp only[List.nil_append] at e;rw[e,h4];exact⟨List.take_append_drop m l,m,rfl⟩
theorem dP{σ:Type}(nx:Nat->Nat->σ->σ)(p:Nat × Nat)(ks:List (Nat × Nat))(s:σ):thr nx (p :: ks) s=thr nx ks (nx p.1 p.2 s):=rfl
theorem FB(ks:List (Nat × Nat)):∀ s:RSt,s.1≠0->(thr rnx ks s).1=s.1:=by
 induction ks with
 | nil=>intro s _;rfl
 | cons p ks ih =>
  intro s a
  have e:(rnx p.1 p.2 s).1=s.1:=jT a;rw[dP,ih _ (by rw[e];exact a),e]
theorem xM(ks:List (Nat × Nat))(o:Nat):∀ s:RSt,o ∉ ks.map Prod.snd->(thr rnx ks s).2.2 o=s.2.2 o:=by
 induction ks with
 | nil=>intro s _;rfl
 | cons p ks ih =>
  intro s a;rw[List.map_cons,List.mem_cons,not_or] at a;rw[dP,ih _ a.2]
  show (if o=p.2 then _ else _)=_
  rw[if_neg a.1]
theorem tE(h:aJ l)(m:Nat):aJ (l.drop m):=λx hx=>h x (List.mem_of_mem_drop hx)
theorem FW(ks:List (Nat × Nat)):∀ (l:List Int) (xs:Nat->Int),aJ l->(ks.map Prod.snd).Nodup->(thr rnx ks (0,l,xs)).1=0->∀ L,thr (pnx (thr rnx ks (0,l,xs)).2.2) ks L ++ (thr rnx ks (0,l,xs)).2.1=L ++ l:=by
 induction ks with
 | nil=>intro l xs _ _ _ L;rfl
 | cons p ks ih =>
  intro l xs d a he L;rw[List.map_cons,List.nodup_cons] at a;rw[dP] at he
  have e1:rdE (p1 p.1 l) 0=0:=by
   by_cases c:rdE (p1 p.1 l) 0=0
   ·exact c
   exact absurd ((FB ks (rnx p.1 p.2 (0,l,xs)) c).symm.trans he) c
  obtain⟨g,m,f⟩:=one1 d p.1 e1
  have es:rnx p.1 p.2 (0,l,xs)=(0,rdL (p1 p.1 l) 0 l,λi=>if i=p.2 then rdV 0 (p1 p.1 l) 0 else xs i):=by
   show (rdE (p1 p.1 l) 0,_,_)=_
   rw[e1]
  have e:thr rnx (p :: ks) (0,l,xs)=thr rnx ks (0,rdL (p1 p.1 l) 0 l,λi=>if i=p.2 then rdV 0 (p1 p.1 l) 0 else xs i):=by rw[dP,es]
  rw[es] at he;rw[e]
  have b:=ih _ _ (by rw[f];exact tE d m) a.2 he;rw[dP,b]
  have ev:(thr rnx ks (0,rdL (p1 p.1 l) 0 l,λi=>if i=p.2 then rdV 0 (p1 p.1 l) 0 else xs i)).2.2 p.2=rdV 0 (p1 p.1 l) 0:=by
   rw[xM ks p.2 _ a.1]
   show (if p.2=p.2 then _ else _)=_
   rw[if_pos rfl]
  show (L ++ gZ p.1 _) ++ _=L ++ l
  rw[ev,List.append_assoc,g]
def rng:Nat->Int->Prop
 | 0,x=>0<=x/\x < 18446744073709551616
 | 1,x=>x=0\/x=1
 | _,x=>0<=x
def DW:Nat->Int->Int
 | 0,x=>x
 | 1,x=>x
 | _,x=>fit x
theorem back1(k:Nat)(hx:rng k x)(r:List Int):∃ m,p1 k (gZ k x ++ r)=.inr (DW k x,m)/\(gZ k x ++ r).drop m=r:=by
 match k,hx with
 | 0,hx =>
  obtain⟨b,a⟩:=Bt 8 hx.1 r;refine⟨8,?_,a⟩
  show cA 8 (be 8 x ++ r)=_
  rw[b,Int.emod_eq_of_lt hx.1 (by have:=hx.2;simpa using this)];rfl
 | 1,hx =>
  have key:∀ t:Bool,∃ m,et (be 1 (if t then 1 else 0) ++ r)=.inr ((if t then 1 else 0),m)/\(be 1 (if t then 1 else 0) ++ r).drop m=r:=λt=>by
   obtain⟨b,a⟩:=yT t r;refine⟨1,?_,a⟩;unfold et;rw[b]
  rcases hx with rfl | rfl
  ·exact key false
  exact key true
 | k + 2,hx =>
  have c:0<=fit x:=by
   unfold fit;split
   ·exact hx
   decide
  obtain⟨b,a⟩:=Bh c (l8 x) r;exact⟨_,b,a⟩
theorem zj(a:Nat->Int)(ks:List (Nat × Nat)):∀ (r:List Int) (xs:Nat->Int),(ks.map Prod.snd).Nodup->(∀ p∈ks,rng p.1 (a p.2))->∃ ys,thr rnx ks (0,thr (pnx a) ks [] ++ r,xs)=(0,r,ys)/\(∀ p∈ks,ys p.2=DW p.1 (a p.2))/\∀ o,o ∉ ks.map Prod.snd->ys o=xs o:=by
 have f:∀ (ks:List (Nat × Nat)) (L:List Int),thr (pnx a) ks L=L ++ thr (pnx a) ks []:=by
  intro ks
  induction ks with
  | nil=>intro L;simp[thr]
  | cons p ks ih =>
   intro L;rw[dP,dP,ih (pnx a p.1 p.2 L),ih (pnx a p.1 p.2 [])];simp[pnx,List.append_assoc]
 induction ks with
 | nil=>exact λr xs _ _=>⟨xs,rfl,(λp h=>by cases h),λ_ _=>rfl⟩
 | cons p ks ih =>
  intro r xs b d;rw[List.map_cons,List.nodup_cons] at b;obtain⟨m,g,e⟩:=back1 p.1 (d p List.mem_cons_self) (thr (pnx a) ks [] ++ r)
  have el:thr (pnx a) (p :: ks) [] ++ r=gZ p.1 (a p.2) ++ (thr (pnx a) ks [] ++ r):=by
   rw[dP,f];simp[pnx,List.append_assoc]
  rw[el,dP]
  have es:rnx p.1 p.2 (0,gZ p.1 (a p.2) ++ (thr (pnx a) ks [] ++ r),xs)=(0,thr (pnx a) ks [] ++ r,λi=>if i=p.2 then DW p.1 (a p.2) else xs i):=by
   show (rdE (p1 p.1 _) 0,rdL (p1 p.1 _) 0 _,λi=>if i=p.2 then rdV 0 (p1 p.1 _) 0 else xs i)=_
   rw[g]
   show (_,List.drop m _,_)=_
   rw[e];rfl
  rw[es];obtain⟨ys,e1,e2,e3⟩:=ih r _ b.2 (λq hq=>d q (List.mem_cons_of_mem _ hq));refine⟨ys,e1,λq hq=>?_,λo c=>?_⟩
  ·rcases List.mem_cons.1 hq with rfl | hq
   ·rw[e3 _ b.1]
    show (if q.2=q.2 then _ else _)=_
    rw[if_pos rfl]
   exact e2 q hq
  rw[List.map_cons,List.mem_cons,not_or] at c;rw[e3 o c.2]
  show (if o=p.2 then _ else _)=_
  rw[if_neg c.1]
end
end Rc
end
section
namespace Rc
open Go.RowKit Go.Lib Pg
attribute [local go_sem] Oper.semAt_some
theorem BO (k:Nat) (x:Int):aJ (gZ k x):=by
 unfold gZ;split
 ·exact fZ _ _
 ·exact fZ _ _
 intro y hy;rcases List.mem_append.1 hy with h | h
 ·exact fZ _ _ y h
 exact AM _ y h
theorem gX (xs:Nat->Int) (ks:List (Nat × Nat)):∀ L,aJ L->aJ (thr (pnx xs) ks L):=by
 induction ks with
 | nil=>exact λ_ h=>h
 | cons p ks ih =>
  intro L h;rw[dP];refine ih _ ?_
  intro y hy;rcases List.mem_append.1 hy with a | a
  ·exact h y a
  exact BO _ _ y a
theorem EB {w:World} {b n:Nat} {M:List Int} (h:Box w b (M.map (Value.int .u8)) 5) (hn:n=M.length) (ho:aJ M) (a:M.length<=1000000):ByA w b (some ⟨b,0,none⟩) n n M :=
 ⟨0,hn.symm,Nat.le_refl _,⟨by omega,λe=>by cases e⟩,ho,h.atB⟩
end Rc
end
section
namespace Rc
open Go.RowKit Go.Lib Pg Lim
theorem la {err:Int} {l:List Int} (h:bS err l=0):err=0/\l=[]:=by
 unfold bS at h;split at h
 ·rename_i he;split at h
  ·rename_i a;exact⟨he,List.eq_nil_of_length_eq_zero a⟩
  exact absurd h (by decide)
 exact absurd h (by assumption)
theorem ones (ks:List (Nat × Nat)) (l:List Int) (ho:aJ l) (a:(ks.map Prod.snd).Nodup) (h:bS (thr rnx ks (0,l,λ_=>0)).1 (thr rnx ks (0,l,λ_=>0)).2.1=0):thr (pnx (thr rnx ks (0,l,λ_=>0)).2.2) ks []=l:=by
 obtain⟨c,b⟩:=la h;have:=FW ks l (λ_=>0) ho a c [];rw[b,List.append_nil,List.nil_append] at this;exact this
end Rc
end
end Go.Proofs.YtpoifdokmjhclaaGreat
