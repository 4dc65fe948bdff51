/- Several texts, joined: FoQ. -/
import Derived.Test.YthfepflplbahkaaGreatDoorJaD
import Derived.Test.YthfepflplbahkaaGreatDoorJaE
set_option maxRecDepth 100000
set_option maxHeartbeats 8000000
namespace Go.Proofs.YthfepflplbahkaaGreatDoor
namespace Fo
open Go.RowKit Go.Lib Pg Lim Gl Kv Bk Pw
section
variable {g:List Int}{w:World}{x:Int}{K:Nat->Prop}
attribute [local go_sem] Oper.semAt_some
set_option linter.unusedVariables false
set_option linter.unusedSimpArgs false
theorem yn(h:fS g)(h0:g≠[]):nth g (g.length - 1)<=ey g:=by
 induction g with
 | nil=>exact absurd rfl h0
 | cons x l ih =>
  have hx:=h x List.mem_cons_self;by_cases e:l=[]
  ·subst e;simp[ey,nth]
  ·have:=ih (fun y hy=>h y (List.mem_cons_of_mem _ hy)) e
   have hl:0 < l.length:=List.length_pos_iff.2 e;rw[show (x :: l).length - 1=(l.length - 1) + 1 by simp; omega,dO,ey];have h1:=(h _ (List.mem_cons_of_mem _ (lI (l:=l) (i:=l.length - 1) (by omega)))).1;omega
theorem gG(hx:x < 100):kL w x:=fun g h1 h2 h3 h4 wx _=>by
 have h5:=yn h1 h3;obtain⟨n,hn⟩:∃ n:Nat,nth g (g.length - 1)=(n:Int):=⟨(nth g (g.length - 1)).toNat,by omega⟩
 rw[hn];exact wK n (by omega) (by omega) wx
theorem mI{S:ByteArray}(h:AB S x)(l wl:List UInt8)(hd:(wl.map (fun c=>(c.toNat:Int))).all (fun c=>decide (48<=c/\c<=57))=true)(hv:dvI (wl.map (fun c=>(c.toNat:Int)))=x / U36)(h0:0 < wl.length)(h1:wl.length=1\/nth (wl.map (fun c=>(c.toNat:Int))) 0≠48)(hl:l=wl ++ uQ (x % U36)):S=⟨l.toArray⟩:=by
 obtain⟨Sw,hw,hS⟩:=h.ex;have e:=Be hw wl hd hv h0 h1;rw[hl]
 cases S with
 | mk arr =>
  simp at hS;rw[e] at hS;simp[<- hS]
theorem Dk{s t:Nat}(h:s<=t):(18446744073709551616:Int) ^ s<=18446744073709551616 ^ t:=by
 have:=Nat.pow_le_pow_right (show 0 < 18446744073709551616 by decide) h
 have h2:((18446744073709551616 ^ s:Nat):Int)<=((18446744073709551616 ^ t:Nat):Int):=Int.ofNat_le.2 this;rw[Int.natCast_pow,Int.natCast_pow] at h2;exact h2
theorem dw{V V':World}(h:Below w.heap.size w V)(hC:Chg K V V')(hk:∀ b,K b->w.heap.size<=b):Below w.heap.size w V' :=
 ((Chg.of (F:=fun _=>False) h).trans hC (fun b hl hb=>by have:=hk b hb; omega)).nothing
theorem DC(Bz:Nat)(hb:Bz=w.heap.size):Calls Tryz.prog 16 #[] w fun e w'=>∃ g K,e=.returned (pg g)/\Sx Bz w' K g [] [] 0 0/\(∀ b,K b->Bz<=b)/\Below w.heap.size w w':=by
 subst hb;refine snew.mono ?_
 rintro e w' ⟨g,K,rfl,S,hK,B⟩;exact⟨g,K,rfl,⟨S.mono (fun _ _ h=>h.elim),B.size,hK⟩,hK,B⟩
end
section
variable {B:Nat} {w:World} {K:Nat->Prop} {g:Nat} {E E':aI} {W:List aI} {n N P:Nat}
theorem dumpF {m:Nat} (h:Sx B w K g E W n N) (hN:N<=100000000) (hm:E.length=m):Calls Tryz.prog 15 #[pg g] w fun e w'=>∃ a c,e=.returned (.slice a m c)/\Below w.heap.size w w':=by
 refine(sdump h.sa hN).mono ?_
 rintro e w' ⟨v,es,rfl,P,he,B⟩;obtain⟨a,c,rfl⟩:=P.shape
 have hl:es.length=m:=by rw[<- hm,<- he,List.length_map]
 rw[hl];exact⟨a,c,rfl,B⟩
end
def Ap (n z g:Nat):Prop:=n=0\/z≠g
structure Al (B:Nat) (w:World) (K:Nat->Prop) (g:Nat) (E:aI) (W:List aI) (n N:Nat):Prop where
 sx:Sx B w K g E W n N
section
variable {B:Nat} {w w':World} {K K':Nat->Prop} {g x:Nat} {E E':aI} {W:List aI} {n N n' N':Nat}
theorem Al.keep (h:Al B w K g E W n N) (b:Below w.heap.size w w'):Al B w' K g E W n N:=⟨h.sx.keep b⟩
theorem Al.drew (h:Al B w K g E W n N):Al B w.drew K g E W n N:=h.keep (Below.refl _ _).drew
theorem Al.lt (h:Al B w K g E W n N) {b:Nat} (hb:K b):b < w.heap.size:=h.sx.sa.lt hb
theorem Al.new (h:Al B w K g E W n N) (hx:w.heap.size<=x):¬ K x:=fun hk=>by have:=h.lt hk; omega
theorem Al.cell {cs:List Value} {t:TypeId} (h:Al B w K g E W n N) (hX:Blk w x cs t) (C:Chg (· = x) w w') (hk:¬ K x) (ht:t≠5):Al B w' K g E W n N:=by
 have r:=Rg.cell (rg_of (X:=fun _=>True) h.sx trivial) hX C (.inr trivial) hk ht;exact⟨r.sx⟩
end
section
variable {w:World}{K K':Nat->Prop}{x tk pe id x0 rt un x1 x2 x3:Int}{cs:List Value}{n c B g N n0 P n1 n2 n3:Nat}{ao:Option Addr}{E E':aI}{W:List aI}{args:Array Value}{jl bo:Bool}{r:Value}
theorem aU{x:Nat}{t:TypeId}(X:Blk w x cs t)(h:¬ K x)(hK:∀ b,K' b->K b\/w.heap.size<=b):¬ K' x:=fun q=>(hK x q).elim h (fun q=>by have:=X.lt; omega)
theorem xu{V:World}{z:Nat}(h:Nk w (fun b=>w.heap.size<=b) z ao n c x)(hB:Below w.heap.size w V)(hK:∀ b,K b->w.heap.size<=b):Nk V K z ao n c x:=by
 have q:=h.keep hB;exact⟨q.lt,q.out.imp_right fun h1 h2=>h1 (hK _ h2),q.to⟩
theorem AH(h:aX w ao n c x):∃ z,Nk w (fun b=>w.heap.size<=b) z ao n c x:=by
 obtain⟨b,o,l,h1,h2,h3,h4,h5⟩:=h
 have hlt:n=0\/b < w.heap.size:=by
  rcases Nat.eq_zero_or_pos n with q | q
  ·exact .inl q
  ·exact .inr (aK (h4.cell 0 (by omega)))
 refine⟨b,hlt,hlt.imp_right fun q=>by show ¬ (w.heap.size<=b); omega,fun w2 hw=>⟨b,o,l,h1,h2,h3,⟨h4.loc,fun i hi => ?_⟩,h5⟩⟩;rw[World.cell?_of_block (w:=w) (hw (by omega))];exact h4.cell i hi
theorem aX.ltF(h:aX w ao n c x):x < 18446744073709551616 ^ n:=by
 obtain⟨b,o,l,h1,h2,h3,h4,h5⟩:=h;have:=dF h3;rw[h1,h5] at this;exact this
structure HoV(B:Nat)(w:World)(K:Nat->Prop)(g:Nat)(E':aI)(W:List aI)(n N:Nat)(p x4 xs:Int)(n0 n4:Nat)(e:Ending)(w':World):Prop where
 ex:∃ b0 k0 d0 y0 b1 k1 d1 y1 K' n' N',e=.returned (.agg #[.slice b0 k0 d0,.int .u64 p,.slice b1 k1 d1])/\Sx B w' K' g E' W n' N'/\n'<=n + 10/\N'<=N + 10/\(∀ b,K' b->K b\/w.heap.size<=b)/\Chg K w w'/\Nq w' K' y0 b0 k0 d0 (x4)/\k0<=n4 + 1/\(k0=0\/w.heap.size<=y0)/\Nq w' K' y1 b1 k1 d1 (xs)/\k1<=n0 + n4 + 40/\(k1=0\/w.heap.size<=y1)
theorem HoE.cast{x4 p xs:Int}{n4:Nat}(h:Calls Tryz.prog P args w (HoE B w K g E W n N tk pe id x0 x4 n0 n4))(hp:(pe - 1) % 18446744073709551616=p)(hE:dE E id p=E')(hx:x4 * (tk * U36) / x0=xs):Calls Tryz.prog P args w (HoV B w K g E' W n N p x4 xs n0 n4):=by
 subst hp hE hx;exact h.mono fun e w' h=>⟨h.ex⟩
structure ClV(B:Nat)(w:World)(K:Nat->Prop)(g:Nat)(E':aI)(W:List aI)(n N:Nat)(rt tk:Int)(jl:Bool)(un:Int)(bo:Bool)(pq x0 x1 x2 x3:Int)(n0 n1 n2 n3:Nat)(e:Ending)(w':World):Prop where
 ex:∃ b0 k0 d0 y0 b1 k1 d1 y1 b2 k2 d2 y2 b3 k3 d3 y3 K' n' N',e=.returned (.tuple #[.agg #[.int .u64 rt,.int .u64 tk,.slice b0 k0 d0,.bool jl,.int .u64 un,.bool bo,.int .u64 pq,.slice none 0 0,.slice b2 k2 d2,.slice b3 k3 d3],.agg #[.slice b1 k1 d1]])/\Sx B w' K' g E' W n' N'/\n'<=n + 20/\N'<=N + 20/\(∀ b,K' b->K b\/w.heap.size<=b)/\Chg K w w'/\Nq w' K' y0 b0 k0 d0 (x0)/\k0<=n0 + 1/\(k0=0\/w.heap.size<=y0)/\Nq w' K' y1 b1 k1 d1 ((if tk=0 then x1 else 0))/\k1<=n1 + 1/\(k1=0\/w.heap.size<=y1)/\Nq w' K' y2 b2 k2 d2 ((if tk=0 then jd x2 x1 else x2))/\k2<=n2 + 1/\(k2=0\/w.heap.size<=y2)/\Nq w' K' y3 b3 k3 d3 (x3)/\k3<=n3 + 1/\(k3=0\/w.heap.size<=y3)
theorem ClE.cast{pq:Int}(h:Calls Tryz.prog P args w (ClE B w K g E W n N rt tk jl un bo pe id x0 x1 x2 x3 n0 n1 n2 n3))(hp:(pe + 1) % 18446744073709551616=pq)(hE:fg E id pe tk x1=E'):Calls Tryz.prog P args w (ClV B w K g E' W n N rt tk jl un bo pq x0 x1 x2 x3 n0 n1 n2 n3):=by
 subst hp hE;exact h.mono fun e w' h=>⟨h.ex⟩
structure CuV(B:Nat)(w:World)(K:Nat->Prop)(g:Nat)(E':aI)(W:List aI)(n N:Nat)(rt tk:Int)(jl:Bool)(un:Int)(bo:Bool)(pe af x0 x1 x2 x3:Int)(n0 n1 n2 n3:Nat)(e:Ending)(w':World):Prop where
 ex:∃ b0 k0 d0 y0 b1 k1 d1 y1 b2 k2 d2 y2 b3 k3 d3 y3 K' n' N',e=.returned (.agg #[.int .u64 rt,.int .u64 af,.slice b0 k0 d0,.bool jl,.int .u64 un,.bool bo,.int .u64 pe,.slice b1 k1 d1,.slice b2 k2 d2,.slice b3 k3 d3])/\Sx B w' K' g E' W n' N'/\n'<=n + 10/\N'<=N + 10/\(∀ b,K' b->K b\/w.heap.size<=b)/\Chg K w w'/\Nq w' K' y0 b0 k0 d0 (x0)/\k0<=n0 + 1/\(k0=0\/w.heap.size<=y0)/\Nq w' K' y1 b1 k1 d1 (x1)/\k1<=n1 + 1/\(k1=0\/w.heap.size<=y1)/\Nq w' K' y2 b2 k2 d2 (x2)/\k2<=n2 + 1/\(k2=0\/w.heap.size<=y2)/\Nq w' K' y3 b3 k3 d3 (x3)/\k3<=n3 + 1/\(k3=0\/w.heap.size<=y3)
theorem CuE.cast{af p:Int}(h:Calls Tryz.prog P args w (CuE B w K g E W n N rt tk jl un bo pe id af x0 x1 x2 x3 n0 n1 n2 n3))(hp:(pe - 1) % 18446744073709551616=p)(hE:BE E id p tk af=E'):Calls Tryz.prog P args w (CuV B w K g E' W n N rt tk jl un bo pe af x0 x1 x2 x3 n0 n1 n2 n3):=by
 subst hp hE;exact h.mono fun e w' h=>⟨h.ex⟩
theorem oU.cast{c':Nat}{V V':Int}(h:Calls Tryz.prog P args w (oU B w K g E W n N c V))(hc:c=c')(hV:V=V'):Calls Tryz.prog P args w (oU B w K g E W n N c' V'):=by
 subst hc hV;exact h
theorem SxF.castE(h:Calls Tryz.prog P args w (SxF B w K g E W n N r))(hE:E=E'):Calls Tryz.prog P args w (SxF B w K g E' W n N r):=by
 subst hE;exact h
theorem uN{a b:Nat}(h:Sx B w K g E W n N)(hid:0<=id/\id < 18446744073709551616)(hN:N<=30000000)(hn:n + 3 * N + 10<=2000000000000000000)(h7:ia E 7 id=a)(h8:ia E 8 id=b):Calls Tryz.prog 12 #[pg g,.int .u64 id] w fun e w'=>∃ K' n',e=.returned (.tuple #[.int .i64 (a:Int),.int .i64 (b:Int)])/\Sx B w' K' g E W n' N/\n'<=n + 2 + 2 * N/\(∀ b,K' b->K b\/w.heap.size<=b)/\Chg K w w':=by
 subst h7 h8;exact CW h hid hN hn
theorem gone_v(h:Sx B w K g E W n N)(hid:0<=id/\id < 18446744073709551616)(hN:N<=10000000)(hn:n + 30 * N + 10<=2000000000000000000)(hE:nE (nE E 7 id) 8 id=E'):Calls Tryz.prog 14 #[pg g,.int .u64 id] w fun e w'=>∃ K' n' N',e=.returned (.tuple #[])/\Sx B w' K' g E' W n' N'/\n'<=n + 20 * N + 10/\N'<=9 * N/\(∀ b,K' b->K b\/w.heap.size<=b)/\Chg K w w':=by
 subst hE;exact gone_x h hid hN hn
end
end Fo
end Go.Proofs.YthfepflplbahkaaGreatDoor
