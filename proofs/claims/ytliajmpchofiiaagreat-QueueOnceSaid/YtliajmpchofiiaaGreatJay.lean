/- Several texts, joined: QuOn. -/
import Derived.Test.YtliajmpchofiiaaGreatJax
set_option maxRecDepth 100000
set_option maxHeartbeats 8000000
namespace Go.Proofs.YtliajmpchofiiaaGreat
namespace Qu
open Go.RowKit Go.Lib Pg Lim Gl Kv Bk Pw
set_option linter.unusedVariables false
structure EK (w:World) (K:Nat->Prop) (m z:Nat) (a:Option Addr) (n c:Nat) (l:List (Int × Int)):Prop where
 len:n=l.length
 lt:n=0\/z < w.heap.size
 ex:(n=0/\a=none/\c=0)\/(n≠0/\a=some ⟨z,0,none⟩/\m<=z/\¬ K z/\Rw w 64 2 z n c (ecl l))
section
variable {w w':World} {B g m z n c k N:Nat} {a:Option Addr} {l:List (Int × Int)} {K K':Nat->Prop} {E:ay} {W:List ay}
theorem EK.nil (w:World) (K:Nat->Prop) (m:Nat):EK w K m 0 none 0 0 []:=⟨rfl,.inl rfl,.inl ⟨rfl,rfl,rfl⟩⟩
theorem EK.same (h:EK w K m z a n c l) (hb:n≠0->w'.heap[z]? = w.heap[z]? /\ ¬ K' z) (hs:w.heap.size<=w'.heap.size):EK w' K' m z a n c l :=
 ⟨h.len,h.lt.imp_right fun h=>Nat.lt_of_lt_of_le h hs,h.ex.imp id fun⟨h0,h1,h2,h3,h4⟩=>⟨h0,h1,h2,(hb h0).2,h4.same (hb h0).1⟩⟩
theorem EK.out (h:EK w K m z a n c l):n=0\/¬ K z:=h.ex.imp (·.1) (·.2.2.2.1)
theorem EK.low (h:EK w K m z a n c l):n=0\/m<=z:=h.ex.imp (·.1) (·.2.2.1)
theorem EK.keep (h:EK w K m z a n c l) (hb:Below w.heap.size w w'):EK w' K m z a n c l :=
 h.same (fun h0=>⟨hb.block z (h.lt.resolve_left h0),h.out.resolve_left h0⟩) hb.size
theorem EK.drew (h:EK w K m z a n c l):EK w.drew K m z a n c l:=h.same (fun h0=>⟨rfl,h.out.resolve_left h0⟩) (Nat.le_refl _)
theorem EK.op (h:EK w K m z a n c l) (hK:∀ b,K' b->K b\/w.heap.size<=b) (hC:Chg K w w'):EK w' K' m z a n c l :=
 h.same (fun h0=>⟨hC.same z (h.lt.resolve_left h0) (h.out.resolve_left h0),fun h2=>(hK z h2).elim (h.out.resolve_left h0) fun h3=>by have:=h.lt.resolve_left h0; omega⟩) hC.size
theorem EK.cell (h:EK w K m z a n c l) (hC:Chg (· = g) w w') (hg:n=0\/z≠g):EK w' K m z a n c l :=
 h.same (fun h0=>⟨hC.same z (h.lt.resolve_left h0) (hg.resolve_left h0),h.out.resolve_left h0⟩) hC.size
theorem EK.two (h:EK w K m z a n c l) {i:Nat} (hi:i < n):w.cell? ⟨z,0 + i * 2,none⟩=some (.int .u64 (l.getD i (0,0)).1)/\w.cell? ⟨z,0 + i * 2 + 1,none⟩=some (.int .i64 (l.getD i (0,0)).2):=by
 rcases h.ex with⟨h0,_⟩ | ⟨h0,rfl,_,_,hR⟩
 ·omega
 ·have q:EA w z (.slice (some ⟨z,0,none⟩) n c) l:=⟨.inr ⟨z,c,by rw[h.len],Nat.le_refl _,h.len▸hR⟩⟩
  obtain⟨_,pb,hp,hc⟩:=q.cells
  cases hp (by omega);exact hc i hi
theorem EK.ptr (h:EK w K m z a n c l):0 < n->a=some ⟨z,0,none⟩:=fun h0=>by
 rcases h.ex with⟨h1,_⟩ | ⟨_,h1,_⟩
 ·omega
 ·exact h1
theorem Sx.ek (h:Sx B w K g E W k N) (u:EK w K m z a n c l) (hC:Chg (fun b=>b=z/\n≠0) w w'):Sx B w' K g E W k N:=by
 refine⟨h.sa.chg hC (fun b e hb=>u.out.elim e.2 (fun h1=>h1 (e.1▸hb))) (fun b e cs' q => ?_),Nat.le_trans h.lo hC.size,h.kb⟩;obtain⟨rfl,h0⟩:=e;rcases u.ex with⟨h1,_⟩ | ⟨_,_,_,_,hR⟩
 ·exact h0 h1
 ·obtain⟨cs,hB⟩:=hR.kind;exact absurd (hB.eq q).2 (by decide)
theorem app_ek {p:Int × Int} {q:Addr} (ty:TypeId) (h:EK w K m z a n c l) (hm:m<=w.heap.size) (hk:∀ b,K b->b < w.heap.size) (hl:n<=2000000000) (c0:w.cell? (q.add 0)=some (.int .u64 p.1)) (c1:w.cell? (q.add 1)=some (.int .i64 p.2)) :
  ∃ z' a' c' w',(Builtin.append_ #[70,70] ty #[.slice a n c,.slice (some q) 1 1]).run Tryz.prog w=.ok (.slice a' (n + 1) c') w'/\EK w' K m z' a' (n + 1) c' (l ++ [p])/\Chg (fun b=>b=z/\n≠0) w w':=by
 have hnews:∀ j u,(ecs p)[j]? = some u->w.cell? (q.add j)=some u:=fun j u hj=>by
  match j with
  | 0=>simp[ecs] at hj; rw[<- hj]; exact c0
  | 1=>simp[ecs] at hj; rw[<- hj]; exact c1
  | k + 2=>simp[ecs] at hj
 have hlen:=h.len;rcases h.ex with⟨rfl,rfl,rfl⟩ | ⟨h0,rfl,hz,hKz,hR⟩
 ·obtain⟨c',w',hr,hR,hw⟩:=dQ (w:=w) KN ty q 1 1 (ecs p) rfl hnews (by omega) (by omega) (by omega)
  have hl0:l=[]:=List.length_eq_zero_iff.1 hlen.symm;subst hl0;refine⟨_,_,c',w',hr,⟨rfl,.inr hR.lt,.inr ⟨by decide,rfl,hm,fun hb=>by have:=hk _ hb; omega,by simpa[ecl] using hR⟩⟩,Chg.of hw⟩
 ·obtain⟨b',c',w',hr,hb',hR',hC⟩:=cI KN ty hR q 1 1 (ecs p) rfl hnews (fun u hu=>by simp[ecs] at hu; rcases hu with rfl | rfl<;>rfl) (by omega) (by omega);refine⟨b',_,c',w',hr,⟨by simp[hlen],.inr hR'.lt,.inr ⟨by omega,rfl,by rcases hb' with rfl | rfl<;>omega,?_,by simpa[ecl] using hR'⟩⟩,hC.mono (fun y _ e=>⟨e,h0⟩)⟩;rcases hb' with rfl | rfl
  ·exact hKz
  ·exact fun hb=>by have:=hk _ hb; omega
end
section
variable {w w':World} {B:Nat} {v:Value} {l:List (Int × Int)} {ei ek:Int}
theorem oZ (b:Bool) (h:EA w B v l) (hl:l.length<=9000000000000000000) (hc:decide (l.count (ei,ek)=1)=b):Calls Tryz.prog 31 #[v,.agg #[.int .u64 ei,.int .i64 ek]] w fun e w'=>e=.returned (.bool b)/\Below w.heap.size w w':=hc▸in_ea h hl
end
section
variable {E:ay} {nx:Int} {A:List Qe} {e:Qe}
section
variable {r:List Int}
theorem Qs.dueY(h:Qs E nx A)(hnx:nx<=18446744073709551616)(he:e∈A):decide ((upto E (p14 e.due)).count (e.id,e.k)=1)=true:=by
 rw[h.xN hnx (h.dD e he).2.2.2.2,if_pos ⟨e,he,Int.le_refl _,rfl,rfl⟩];rfl
theorem Qs.dueN(h:Qs E nx A)(hnx:nx<=18446744073709551616)(he:e∈A)(h0:0 < e.due):decide ((upto E (p14 (e.due - 1))).count (e.id,e.k)=1)=false:=by
 have hu:=(h.dD e he).2.2.2.2;rw[h.xN hnx ⟨by have:=hu.1; omega,by have:=hu.2; omega⟩,if_neg]
 ·rfl
 ·rintro⟨f,hf,h1,h2,_⟩;rw[h.one hf he h2] at h1;omega
theorem Qs.frmY(h:Qs E nx A)(hnx:nx<=18446744073709551616)(he:e∈A):decide ((under E (p15 e.val)).count (e.id,e.k)=1)=true:=by
 rw[h.frmIn hnx (h.dD e he).2.2.2.1,if_pos ⟨e,he,rfl,rfl,rfl⟩];rfl
theorem Qs.cntP(h:Qs E nx A)(hA:A.length<=1000000)(he:e∈A):∃ m:Nat,Qu.cR E e.del e.val=(m:Int)/\0 < m:=by
 obtain⟨_,_,g3,g4,_⟩:=h.dD e he;exact⟨_,h.cR g3 g4 hA,by rw[h.cpos he]; omega⟩
theorem Qs.dueG(h:Qs E nx A)(hnx:nx<=18446744073709551616){i k t:Int}(ht:Uq t)(hno:∀ f∈A,f.id≠i):decide ((upto E (p14 t)).count (i,k)=1)=false:=by
 rw[h.xN hnx ht,if_neg]
 ·rfl
 ·rintro⟨f,hf,_,h2,_⟩;exact hno f hf h2
theorem my(h:Qs E nx A)(hnx:nx + 1 < 18446744073709551616)(hA:A.length<=100000)(hk:e.k=12\/e.k=13)(hdl:Uq e.del)(hv:Uq e.val)(hd:Uq e.due):dC (chn (cY E e.k r e.del e.val e.due))=dC (chn E):=by
 have hn:Uq nx:=⟨h.nx0,by omega⟩
 rw[(pM h hnx hA hk hdl hv hd).1]
 have q:chn (put (E1b E nx e r) (Ky.mk 17 e.del e.val) (nv ((Qu.cnt A e.del e.val + 1:Nat):Int)))=pv (dC (chn E)) ((aN (chn E) + 1) % 18446744073709551616):=by
  unfold chn got;rw[lkp (lE h.cF nx e r) (gM hdl hv) ok2,if_neg (by omega),kR h.cF hk hn hv hd ok2,if_neg (by omega),if_neg (by omega),if_neg (by omega),if_pos ⟨rfl,rfl,rfl⟩];rfl
 rw[q];exact(iI h.hgt ⟨by omega,by omega⟩).1
theorem xA(h:Qs E nx A)(hnx:nx<=18446744073709551616)(hA:A.length<=100000)(he:e∈A):chn (bX E e.id e.k)=chn E:=by
 obtain⟨g1,g2,g3,g4,g5⟩:=h.dD e he;have hid:=h.uid hnx he;rw[(h.drop hnx hA he).1,(nz h hnx hA he).1];unfold chn got kE;split
 ·rw[lkr (eb h.cF _) (gM g3 g4) ok2,if_neg (by omega),eE h.cF g1 hid g4 g5 ok2,if_neg (by omega),if_neg (by omega),if_neg (by omega)]
 ·rw[lkp (eb h.cF _) (gM g3 g4) ok2,if_neg (by omega),eE h.cF g1 hid g4 g5 ok2,if_neg (by omega),if_neg (by omega),if_neg (by omega)]
theorem Qs.lone(h:Qs E nx [])(h3:dC (chn E)=3):E.length=1:=by
 have h1:=h.bare
 match E,h1 with
 | [],_=>exact absurd h3 (by decide)
 | [_],_=>rfl
end
end
section
variable {E:ay} {n0 nx:Int} {st:Nat->Sq} {i j k:Nat}
def ids (n0:Int) (st:Nat->Sq) (k:Nat):List (Int × Int):=(qes n0 st k).map (fun e=>(e.id,e.k))
theorem ids_at (hj:j < k):(ids n0 st k).getD j (0,0)=((qe n0 (st j) j).id,(qe n0 (st j) j).k):=by
 unfold ids qes;rw[List.getD_eq_getElem?_getD,List.getElem?_map,List.getElem?_map,List.getElem?_range hj];rfl
theorem memU (hc:(st i).w.tmod 2=0):(⟨n0 + i,12,(st i).u0,(st i).u1,(st i).u3⟩:Qe)∈qes n0 st (i + 1)/\ids n0 st (i + 1)=ids n0 st i ++ [(n0 + (i:Int),12)]:=by
 have h:qe n0 (st i) i=⟨n0 + i,12,(st i).u0,(st i).u1,(st i).u3⟩:=if_pos hc;refine⟨gx.2 ⟨i,by omega,h.symm⟩,?_⟩;unfold ids;rw[fT,List.map_append,h];rfl
theorem memM (hc:¬ (st i).w.tmod 2=0):(⟨n0 + i,13,(st i).m0,(st i).m1,(st i).m4⟩:Qe)∈qes n0 st (i + 1)/\ids n0 st (i + 1)=ids n0 st i ++ [(n0 + (i:Int),13)]:=by
 have h:qe n0 (st i) i=⟨n0 + i,13,(st i).m0,(st i).m1,(st i).m4⟩:=if_neg hc;refine⟨gx.2 ⟨i,by omega,h.symm⟩,?_⟩;unfold ids;rw[fT,List.map_append,h];rfl
theorem hgtU (h:Qs E (n0 + i) (qes n0 st i)) (h3:dC (chn E)=3) (hnx:n0 + i + 1 < 18446744073709551616) (hi:i<=100000) (r:Sqr (st i)) (l:List Int):dC (chn (cY E 12 l (st i).u0 (st i).u1 (st i).u3))=3 :=
 (my (e:=⟨0,12,(st i).u0,(st i).u1,(st i).u3⟩) h hnx (by rw[eU]; exact hi) (.inl rfl) r.u0 r.u1 r.u3).trans h3
theorem hgtM (h:Qs E (n0 + i) (qes n0 st i)) (h3:dC (chn E)=3) (hnx:n0 + i + 1 < 18446744073709551616) (hi:i<=100000) (r:Sqr (st i)) (l:List Int):dC (chn (cY E 13 l (st i).m0 (st i).m1 (st i).m4))=3 :=
 (my (e:=⟨0,13,(st i).m0,(st i).m1,(st i).m4⟩) h hnx (by rw[eU]; exact hi) (.inr rfl) r.m0 r.m1 r.m4).trans h3
theorem bg_hgt (h:Uq n0):dC (chn (bgE n0))=3:=by
 have q:chn (bgE n0)=pv 3 n0:=by unfold chn got bgE; rw[lkp (E:=[]) List.Pairwise.nil ok2 ok2,if_pos ⟨rfl,rfl,rfl⟩]; rfl
 rw[q];exact(iI (by decide) h).1
theorem dropL (h:Qs E nx (qes n0 st (j + 1))) (h3:dC (chn E)=3) (hnx:nx<=18446744073709551616) (hj:j<=1000) {e:Qe} (he:qe n0 (st j) j=e) :
  Uq e.id/\dJ E e.id e.k=true/\Qs (bX E e.id e.k) nx (qes n0 st j)/\dC (chn (bX E e.id e.k))=3/\bX (bX E e.id e.k) e.id e.k=bX E e.id e.k/\dJ (bX E e.id e.k) e.id e.k=false/\decide ((upto (bX E e.id e.k) (p14 18446744073709551615)).count (e.id,e.k)=1)=false:=by
 subst he
 have hm:qe n0 (st j) j∈qes n0 st (j + 1):=gx.2 ⟨j,by omega,rfl⟩
 have hl:(qes n0 st (j + 1)).length<=100000:=by rw[eU]; omega
 have hu:=h.uid hnx hm;have q:=h.A7 hnx hl hm;rw[qg] at q
 have hno:∀ f∈qes n0 st j,f.id≠(qe n0 (st j) j).id:=fun f hf=>by
  obtain⟨i,hi,rfl⟩:=gx.1 hf;rw[pD,pD];omega
 have d:=q.dropN (k:=(qe n0 (st j) j).k) hu (fun f hf z=>hno f hf z.1);exact⟨hu,(h.drop hnx hl hm).2.2,q,by rw[xA h hnx hl hm]; exact h3,d.1,d.2.2,q.dueG hnx (by decide) hno⟩
end
theorem EK.tw {w:World} {K:Nat->Prop} {m z n c j:Nat} {a:Option Addr} {n0:Int} {st:Nat->Sq} {e:Qe} (h:EK w K m z a n c (ids n0 st n)) (hj:j < n) (he:qe n0 (st j) j=e):w.cell? ⟨z,0 + j * 2,none⟩=some (.int .u64 e.id)/\w.cell? ⟨z,0 + j * 2 + 1,none⟩=some (.int .i64 e.k):=by
 have q:=h.two hj;rw[ids_at hj,he] at q;exact q
end Qu
end Go.Proofs.YtliajmpchofiiaaGreat
