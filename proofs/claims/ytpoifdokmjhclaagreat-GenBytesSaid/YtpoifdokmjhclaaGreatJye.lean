import Derived.Test.YtpoifdokmjhclaaGreatJyd
set_option maxRecDepth 100000
set_option maxHeartbeats 8000000
namespace Go.Proofs.YtpoifdokmjhclaaGreat
section
namespace Gn
open Go.RowKit Go.Lib Pg Lim Gl Mg
section
variable {na nv most k:Nat}{l:List Int}
def w8:List Int->List Int
 | []=>[]
 | x :: l=>be 8 x ++ w8 l
theorem vm(a b:List Int):w8 (a ++ b)=w8 a ++ w8 b:=by
 induction a with
 | nil=>rfl
 | cons x l ih=>simp only[List.cons_append,w8,ih,List.append_assoc]
theorem bW(l:List Int):(w8 l).length=8 * l.length:=by
 induction l with
 | nil=>rfl
 | cons x l ih=>simp only[w8,List.length_append,ax,ih,List.length_cons];omega
theorem pI(l:List Int):aJ (w8 l):=by
 induction l with
 | nil=>exact λy hy=>absurd hy List.not_mem_nil
 | cons x l ih=>exact iL (fZ _ _) ih
def rN:Nat->St->List Int × St
 | 0,s=>([],s)
 | k+1,s=>((rU 8 s).1 :: (rN k (rU 8 s).2).1,(rN k (rU 8 s).2).2)
theorem gg:∀ k s,(rN k s).1.length=k
 | 0,_=>rfl
 | k+1,s=>by simp only[rN,List.length_cons,gg k]
theorem jD:∀ a b s,rN (a+b) s=((rN a s).1 ++ (rN b (rN a s).2).1,(rN b (rN a s).2).2)
 | 0,b,s=>by simp[rN]
 | a + 1,b,s=>by
  rw[show a+1+b=(a+b)+1 by omega];simp only[rN,jD a b,List.cons_append]
theorem kZ:∀ (l:List Int) (r:List Int),(∀ x∈l,In8 x)->rN l.length (0,w8 l ++ r)=(l,0,r)
 | [],r,_=>rfl
 | x :: l,r,h=>by
  simp only[List.length_cons,rN,w8,List.append_assoc];rw[r8 (h x List.mem_cons_self)];simp only;rw[kZ l r λy hy=>h y (List.mem_cons_of_mem _ hy)]
theorem kV:∀ k (s:St),aJ s.2->(aJ (rN k s).2.2/\∀ x∈(rN k s).1,In8 x)/\((rN k s).2.1=0->s.1=0/\s.2=w8 (rN k s).1 ++ (rN k s).2.2)
 | 0,s,h=>⟨⟨h,λ_ hx=>absurd hx List.not_mem_nil⟩,λe=>⟨e,rfl⟩⟩
 | k + 1,s,h=>by
  obtain⟨⟨h1,h2,h3⟩,h4⟩:=mV (m:=8) (s:=s) (x:=(rU 8 s).1) (s':=(rU 8 s).2) rfl h;obtain⟨⟨g1,a⟩,b⟩:=kV k (rU 8 s).2 h1;simp only[rN,w8];refine⟨⟨g1,λx hx=>?_⟩,λe=>?_⟩
  ·rcases List.mem_cons.1 hx with e | e
   ·subst e;exact⟨h2,by rw[<- p8];exact h3⟩
   exact a x e
  obtain⟨e1,e2⟩:=b e;obtain⟨e3,e4⟩:=h4 e1;exact⟨e3,by rw[List.append_assoc,<- e2];exact e4⟩
structure Ge where
 p:List Int
 a:List Int
 v:List Int
structure Ge.Ok(g:Ge)(na nv:Nat):Prop where
 p:g.p.length=10
 a:g.a.length=na * 2
 v:g.v.length=nv * 3
 rp:∀ x∈g.p,In8 x
 ra:∀ x∈g.a,In8 x
 rv:∀ x∈g.v,In8 x
def mk0:Int:=1196183089
def bG(g:Ge)(na nv:Nat):List Int:=be 4 mk0 ++ (w8 g.p ++ (be 4 na ++ (w8 g.a ++ (be 4 nv ++ w8 g.v))))
theorem uo{g:Ge}(h:g.Ok na nv):(bG g na nv).length=92+16 * na+24 * nv:=by
 simp only[bG,List.length_append,ax,bW,h.p,h.a,h.v];omega
theorem jo(g:Ge)(na nv:Nat):aJ (bG g na nv):=iL (fZ _ _) (iL (pI _) (iL (fZ _ _) (iL (pI _) (iL (fZ _ _) (pI _)))))
def rL(most k:Nat)(s:St):(Int × List Int) × St:=if (rU 4 s).1<=most then (((rU 4 s).1,(rN ((rU 4 s).1.toNat * k) (rU 4 s).2).1),(rN ((rU 4 s).1.toNat * k) (rU 4 s).2).2) else (((rU 4 s).1,[]),(rU 4 s).2)
theorem BJ{n:Nat}{r:List Int}(hn:n<=most)(a:l.length=n * k)(h:∀ x∈l,In8 x)(hm:most<=256:=by decide):rL most k (0,be 4 n ++ (w8 l ++ r))=(((n:Int),l),0,r):=by
 have b:rU 4 (0,be 4 (n:Int) ++ (w8 l ++ r))=((n:Int),0,w8 l ++ r):=kY 4 n _ (by omega) (by rw[show (256:Int) ^ 4=4294967296 from rfl];omega);unfold rL;rw[b];simp only;rw[if_pos (by omega),Int.toNat_natCast,<- a,kZ l r h]
def bad(most k:Nat)(s:St):Bool:=!decide ((rL most k s).1.1<=most)
def sH(l:List Int):St:=(rU 4 (0,l)).2
def sP(l:List Int):St:=(rN 10 (sH l)).2
def sA(l:List Int):St:=(rL 256 2 (sP l)).2
def sV(l:List Int):St:=(rL 64 3 (sA l)).2
def gD(l:List Int):Ge:=⟨(rN 10 (sH l)).1,(rL 256 2 (sP l)).1.2,(rL 64 3 (sA l)).1.2⟩
def gP(l:List Int):Bool:=(!decide ((rU 4 (0,l)).1=mk0) || bad 256 2 (sP l)) || bad 64 3 (sA l)
def eD(l:List Int):Int:=if 65536 < l.length then 211 else if bS (sV l).1 (sV l).2=0/\gP l=false then 0 else 210
theorem d_back{g:Ge}(h:g.Ok na nv)(f:na<=256)(hv:nv<=64)(r:List Int):(rU 4 (0,bG g na nv ++ r)).1=mk0/\gD (bG g na nv ++ r)=g/\sV (bG g na nv ++ r)=(0,r)/\gP (bG g na nv ++ r)=false/\(rL 256 2 (sP (bG g na nv ++ r))).1.1=na/\(rL 64 3 (sA (bG g na nv ++ r))).1.1=nv:=by
 have e:bG g na nv ++ r=be 4 mk0 ++ (w8 g.p ++ (be 4 na ++ (w8 g.a ++ (be 4 nv ++ (w8 g.v ++ r))))):=by simp only[bG,List.append_assoc]
 have c:rU 4 (0,bG g na nv ++ r)=(mk0,0,w8 g.p ++ (be 4 na ++ (w8 g.a ++ (be 4 nv ++ (w8 g.v ++ r))))):=by rw[e];exact kY 4 mk0 _ (by decide) (by decide)
 have d:rN 10 (sH (bG g na nv ++ r))=(g.p,0,be 4 na ++ (w8 g.a ++ (be 4 nv ++ (w8 g.v ++ r)))):=by
  unfold sH;rw[c,<- h.p];exact kZ _ _ h.rp
 have hA:rL 256 2 (sP (bG g na nv ++ r))=(((na:Int),g.a),0,be 4 nv ++ (w8 g.v ++ r)):=by
  unfold sP;rw[d];exact BJ f h.a h.ra
 have b:rL 64 3 (sA (bG g na nv ++ r))=(((nv:Int),g.v),0,r):=by
  unfold sA;rw[hA];exact BJ hv h.v h.rv
 refine⟨by rw[c],?_,?_,?_,by rw[hA],by rw[b]⟩
 ·unfold gD;rw[d,hA,b]
 ·unfold sV;rw[b]
 unfold gP bad;rw[c,hA,b];simp;omega
theorem Cd{s:St}(ho:aJ s.2)(h:(rL most k s).1.1<=most):(aJ (rL most k s).2.2/\(∀ x∈(rL most k s).1.2,In8 x)/\∃ n:Nat,(rL most k s).1.1=n/\n<=most/\(rL most k s).1.2.length=n * k)/\((rL most k s).2.1=0->s.1=0/\s.2=be 4 (rL most k s).1.1 ++ (w8 (rL most k s).1.2 ++ (rL most k s).2.2)):=by
 obtain⟨⟨d,g,i⟩,c⟩:=mV (m:=4) (s:=s) (x:=(rU 4 s).1) (s':=(rU 4 s).2) rfl ho
 have hle:(rU 4 s).1<=most:=by
  unfold rL at h;split at h
  ·exact h
  exact h
 have e:rL most k s=(((rU 4 s).1,(rN ((rU 4 s).1.toNat * k) (rU 4 s).2).1),(rN ((rU 4 s).1.toNat * k) (rU 4 s).2).2):=by unfold rL;rw[if_pos hle]
 obtain⟨⟨g1,b⟩,f⟩:=kV ((rU 4 s).1.toNat * k) (rU 4 s).2 d;rw[e];refine⟨⟨g1,b,(rU 4 s).1.toNat,by simp only;omega,by omega,gg _ _⟩,λa=>?_⟩;obtain⟨e1,e2⟩:=f a;obtain⟨e3,e4⟩:=c e1;exact⟨e3,by rw[e4,e2]⟩
theorem FZ(h:eD l=0):(bS (sV l).1 (sV l).2=0/\gP l=false)/\l.length<=65536:=by
 unfold eD at h;split at h
 ·exact absurd h (by decide)
 rename_i b;split at h
 ·rename_i a;exact⟨a,by omega⟩
 exact absurd h (by decide)
theorem la{e:Int}(h:bS e l=0):e=0/\l=[]:=by
 unfold bS at h;split at h
 ·rename_i he;split at h
  ·rename_i a;exact⟨he,List.length_eq_zero_iff.1 a⟩
  exact absurd h (by decide)
 rename_i he;exact absurd h he
theorem GW(ho:aJ l)(h:eD l=0):∃ na nv:Nat,na<=256/\nv<=64/\(gD l).Ok na nv/\bG (gD l) na nv=l/\(rL 256 2 (sP l)).1.1=na/\(rL 64 3 (sA l)).1.1=nv:=by
 obtain⟨⟨r,a⟩,y⟩:=FZ h;obtain⟨z1,z2⟩:=la r;unfold gP bad at a;simp only[Bool.or_eq_false_iff,Bool.not_eq_false',decide_eq_true_eq] at a;obtain⟨⟨o,u⟩,p⟩:=a;obtain⟨⟨q,w,z⟩,i⟩:=mV (m:=4) (s:=(0,l)) (x:=(rU 4 (0,l)).1) (s':=sH l) rfl ho;obtain⟨⟨i1,i2⟩,i3⟩:=kV 10 (sH l) q;obtain⟨⟨e,v,na,b,g,d⟩,f⟩:=Cd (most:=256) (k:=2) (s:=sP l) i1 u;obtain⟨⟨k1,k2,nv,k3,n,j⟩,t⟩:=Cd (most:=64) (k:=3) (s:=sA l) e p;obtain⟨a1,a2⟩:=t z1;obtain⟨b1,c⟩:=f a1;obtain⟨c1,c2⟩:=i3 b1;obtain⟨d1,d2⟩:=i c1;refine⟨na,nv,g,n,⟨gg _ _,d,j,i2,v,k2⟩,?_,b,k3⟩
 have e1:(sV l).2=[]:=z2;unfold sV at e1;simp only at d2;rw[o] at d2;rw[e1,List.append_nil,k3] at a2;rw[show (rL 256 2 (sP l)).2.2=(sA l).2 from rfl,a2,b] at c;rw[show (rN 10 (sH l)).2.2=(sP l).2 from rfl,c] at c2;rw[c2] at d2;exact d2.symm
end
end Gn
end
section
namespace Mg
open Go.RowKit Go.Lib Pg Lim Gl
attribute [local go_sem] Oper.semAt_some
section
variable {w w':World}{b g g':Nat}{cs:List Value}{err:Int}{l:List Int}
theorem But.blk{t:TypeId}(h:But b w w')(X:Blk w g cs t)(hn:g≠b):Blk w' g cs t:=X.same (h.block g X.lt hn)
theorem aU(h:Chg (·=g) w w'):But g w w':=⟨h.os,h.tape,h.output,h.size,λb hb hne=>h.same b hb hne⟩
theorem mO{w1 b:World}(h:But g w w1)(c:Chg (·=g') w1 b)(f:w.heap.size<=g':=by omega):But g w b:=⟨c.os.trans h.os,c.tape.trans h.tape,c.output.trans h.output,Nat.le_trans h.size c.size,λk a d=>(c.same k (Nat.lt_of_lt_of_le a h.size) (λe=>by have i:k=g':=e;omega)).trans (h.block k a d)⟩
def u8V:Value->Bool
 | .int .u8 _=>true
 | _=>false
theorem nou8(hno:cs.any u8V=false):∀ v∈cs,∀ x,v≠.int .u8 x:=λv hv x e=>by
 have:=List.any_eq_false.1 hno v hv;rw[e] at this;exact this rfl
theorem RdA.dc{t:TypeId}(h:RdA w g b err l)(X:Blk w g' cs t)(a:cs.any u8V=false)(d:g≠g')(e:But g' w w'):RdA w' g b err l:=by
 obtain⟨f,n,c,Y,A⟩:=h.ex;exact⟨f,n,c,⟨by rw[e.block g Y.lt d];exact Y.blk⟩,A.but ⟨X.blk⟩ (nou8 a) e⟩
theorem RfA.dc{t:TypeId}(h:RfA w g b err l)(X:Blk w g' cs t)(a:cs.any u8V=false)(d:g≠g')(e:But g' w w'):RfA w' g b err l:=by
 obtain⟨f,n,c,Y,A⟩:=h.ex;exact⟨f,n,c,⟨by rw[e.block g Y.lt d];exact Y.blk⟩,A.but ⟨X.blk⟩ (nou8 a) e⟩
theorem WrA.dc{t:TypeId}(h:WrA w g err l)(X:Blk w g' cs t)(ht:t≠124)(a:g≠g')(c:But g' w w'):WrA w' g err l:=by
 obtain⟨p,ps,b,u,Y,P,hu,e⟩:=h.ex;exact⟨p,ps,b,u,⟨Y.len,by rw[c.block g Y.lt a];exact Y.blk⟩,P.DL ht ⟨X.blk⟩ c.block,hu,e⟩
theorem yQ{s:St}(R:RdA w g b s.1 s.2):CP 48 #[pg g] w λe w'=>∃ v s',rU 8 s=(v,s')/\e=.returned (.int .u64 v)/\RdA w' g b s'.1 s'.2/\But g w w':=by
 refine(GJ R).mono ?_
 rintro e w' ⟨rfl,a,U⟩;exact⟨_,_,rfl,rfl,a,U⟩
theorem yU8{s:St}(R:RfA w g b s.1 s.2):CP 25 #[pg g,.int .i64 8] w λe w'=>∃ v s',rU 8 s=(v,s')/\e=.returned (.int .u64 v)/\RfA w' g b s'.1 s'.2/\But g w w':=by
 refine(rfU (m:=8) R).mono ?_
 rintro e w' ⟨rfl,a,U⟩;exact⟨_,_,rfl,rfl,a,U⟩
theorem len1(L:List Int)(x:Int):(L ++ be 1 x).length=L.length+1:=by rw[List.length_append,ax]
end
end Mg
end
end Go.Proofs.YtpoifdokmjhclaaGreat
