import Derived.Test.YtpoifdokmjhclaaGreatJgk
set_option maxRecDepth 100000
set_option maxHeartbeats 8000000
namespace Go.Proofs.YtpoifdokmjhclaaGreat
section
namespace Rc
open Go.RowKit Go.Lib Pg Lim
theorem kD {err:Int} {l:List Int} (h:cM err l=0):err=0/\l=[]:=by
 unfold cM at h;split at h
 ·rename_i he;split at h
  ·rename_i a;exact⟨he,List.eq_nil_of_length_eq_zero a⟩
  ·exact absurd h (by decide)
 ·exact absurd h (by assumption)
theorem ones (ks:List (Nat × Nat)) (l:List Int) (ho:aK l) (a:(ks.map Prod.snd).Nodup) (h:cM (thr rnx ks (0,l,fun _=>0)).1 (thr rnx ks (0,l,fun _=>0)).2.1=0):thr (pnx (thr rnx ks (0,l,fun _=>0)).2.2) ks []=l:=by
 obtain⟨c,b⟩:=kD h;have:=EI ks l (fun _=>0) ho a c [];rw[b,List.append_nil,List.nil_append] at this;exact this
end Rc
end
section
namespace Rc
open Go.RowKit Go.Lib Pg Lim Gl
section
variable {xs:Nat->Int}{w w':World}{e:Ending}{bb n c:Nat}{ao:Option Addr}{l:List Int}
def gS(s:RSt):Int:=if cM s.1 s.2.1=0 then 0 else 80
def aR(s:RSt):Nat->Int:=if cM s.1 s.2.1=0 then s.2.2 else fun _=>0
theorem kO{s:RSt}{r:Int}(h1:cM s.1 s.2.1=0->r=0/\xs=s.2.2)(a:cM s.1 s.2.1≠0->r=80/\xs=fun _=>0):xs=aR s/\r=gS s:=by
 unfold aR gS;by_cases h:cM s.1 s.2.1=0
 ·rw[if_pos h,if_pos h];exact⟨(h1 h).2,(h1 h).1⟩
 ·rw[if_neg h,if_neg h];exact⟨(a h).2,(a h).1⟩
def bI(l:List Int):RSt:=thr rnx [(0,0),(0,1),(0,2),(0,3),(0,4),(0,5),(0,6),(0,7),(0,8),(0,9)] (0,l,fun _=>0)
theorem outParams{s:RSt}(h:iG w ep 10 mkA s e w'):e=.returned (.tuple #[.agg #[.int .u64 (aR s 0),.int .u64 (aR s 1),.int .u64 (aR s 2),.int .u64 (aR s 3),.int .u64 (aR s 4),.int .u64 (aR s 5),.int .u64 (aR s 6),.int .u64 (aR s 7),.int .u64 (aR s 8),.int .u64 (aR s 9)],.int .i64 (gS s)])/\Below w.heap.size w w':=by
 obtain⟨⟨cs,xs,r,rfl,q,a,m,g⟩,B⟩:=h;obtain⟨e1,e2⟩:=kO m g;subst e1 e2;have q0:=(a 0).1 rfl;have q1:=(a 1).1 rfl;have p:=(a 2).1 rfl;have j:=(a 3).1 rfl;have l:=(a 4).1 rfl;have k:=(a 5).1 rfl;have f:=(a 6).1 rfl;have d:=(a 7).1 rfl;have o:=(a 8).1 rfl;have c:=(a 9).1 rfl
 have b:cs=[.int .u64 (aR s 0),.int .u64 (aR s 1),.int .u64 (aR s 2),.int .u64 (aR s 3),.int .u64 (aR s 4),.int .u64 (aR s 5),.int .u64 (aR s 6),.int .u64 (aR s 7),.int .u64 (aR s 8),.int .u64 (aR s 9)]:=by
  refine List.ext_getElem? fun i=>?_
  rcases Nat.lt_or_ge i 10 with hi | hi
  ·match i,hi with
   | 0,_=>exact q0
   | 1,_=>exact q1
   | 2,_=>exact p
   | 3,_=>exact j
   | 4,_=>exact l
   | 5,_=>exact k
   | 6,_=>exact f
   | 7,_=>exact d
   | 8,_=>exact o
   | 9,_=>exact c
   | n+10,h=>exact absurd h (by omega)
  ·rw[List.getElem?_eq_none (by omega),List.getElem?_eq_none hi]
 subst b;exact⟨rfl,B⟩
theorem DX(A:ByA w bb ao n c l)(hn:n<=1000000000):Calls Tryz.prog 145 #[.slice ao n c] w fun e w'=>e=.returned (.tuple #[.agg #[.int .u64 (aR (bI l) 0),.int .u64 (aR (bI l) 1),.int .u64 (aR (bI l) 2),.int .u64 (aR (bI l) 3),.int .u64 (aR (bI l) 4),.int .u64 (aR (bI l) 5),.int .u64 (aR (bI l) 6),.int .u64 (aR (bI l) 7),.int .u64 (aR (bI l) 8),.int .u64 (aR (bI l) 9)],.int .i64 (gS (bI l))])/\Below w.heap.size w w':=by
 refine(uG A hn (by obtain⟨o,a,_⟩:=A.ex;exact a)).mono ?_
 intro e w' h;exact outParams h
theorem outChain{s:RSt}(h:iG w ig 2 mkA s e w'):e=.returned (.tuple #[.agg #[.int .u64 (aR s 0),.int .u64 (aR s 1)],.int .i64 (gS s)])/\Below w.heap.size w w':=by
 obtain⟨⟨cs,xs,r,rfl,f,b,d,c⟩,B⟩:=h;obtain⟨e1,e2⟩:=kO d c;subst e1 e2;have q0:=(b 0).1 rfl;have q1:=(b 1).1 rfl
 have a:cs=[.int .u64 (aR s 0),.int .u64 (aR s 1)]:=by
  refine List.ext_getElem? fun i=>?_
  rcases Nat.lt_or_ge i 2 with hi | hi
  ·match i,hi with
   | 0,_=>exact q0
   | 1,_=>exact q1
   | n+2,h=>exact absurd h (by omega)
  ·rw[List.getElem?_eq_none (by omega),List.getElem?_eq_none hi]
 subst a;exact⟨rfl,B⟩
def l6(l:List Int):RSt:=thr rnx [(2,0)] (0,l,fun _=>0)
theorem Ea{s:RSt}(h:iG w gL 1 mkA s e w'):∃ a0 n0 c0,e=.returned (.tuple #[.agg #[.slice a0 n0 c0],.int .i64 (gS s)])/\(du w' w.heap.size a0 n0 c0 (aR s 0)/\n0<=510)/\Below w.heap.size w w':=by
 obtain⟨⟨cs,xs,r,rfl,g,b,d,c⟩,B⟩:=h;obtain⟨e1,e2⟩:=kO d c;subst e1 e2;obtain⟨a0,n0,c0,q0,f,z0⟩:=(b 0).2.2 rfl
 have a:cs=[.slice a0 n0 c0]:=by
  refine List.ext_getElem? fun i=>?_
  rcases Nat.lt_or_ge i 1 with hi | hi
  ·match i,hi with
   | 0,_=>exact q0
   | n+1,h=>exact absurd h (by omega)
  ·rw[List.getElem?_eq_none (by omega),List.getElem?_eq_none hi]
 subst a;exact⟨a0,n0,c0,rfl,⟨f,by omega⟩,B⟩
theorem oPool(A:ByA w bb ao n c l)(hn:n<=1000000000):Calls Tryz.prog 339 #[.slice ao n c] w fun e w'=>∃ a0 n0 c0,e=.returned (.tuple #[.agg #[.slice a0 n0 c0],.int .i64 (gS (l6 l))])/\(du w' w.heap.size a0 n0 c0 (aR (l6 l) 0)/\n0<=510)/\Below w.heap.size w w':=by
 refine(A9 A hn (by obtain⟨o,a,_⟩:=A.ex;exact a)).mono ?_
 intro e w' h;exact Ea h
def eu(l:List Int):RSt:=thr rnx [(0,0),(0,1)] (0,l,fun _=>0)
theorem sY{s:RSt}(h:iG w dP 2 mkA s e w'):e=.returned (.tuple #[.agg #[.int .u64 (aR s 0),.int .u64 (aR s 1)],.int .i64 (gS s)])/\Below w.heap.size w w':=by
 obtain⟨⟨cs,xs,r,rfl,f,b,d,c⟩,B⟩:=h;obtain⟨e1,e2⟩:=kO d c;subst e1 e2;have q0:=(b 0).1 rfl;have q1:=(b 1).1 rfl
 have a:cs=[.int .u64 (aR s 0),.int .u64 (aR s 1)]:=by
  refine List.ext_getElem? fun i=>?_
  rcases Nat.lt_or_ge i 2 with hi | hi
  ·match i,hi with
   | 0,_=>exact q0
   | 1,_=>exact q1
   | n+2,h=>exact absurd h (by omega)
  ·rw[List.getElem?_eq_none (by omega),List.getElem?_eq_none hi]
 subst a;exact⟨rfl,B⟩
theorem yz(A:ByA w bb ao n c l)(hn:n<=1000000000):Calls Tryz.prog 41 #[.slice ao n c] w fun e w'=>e=.returned (.tuple #[.agg #[.int .u64 (aR (eu l) 0),.int .u64 (aR (eu l) 1)],.int .i64 (gS (eu l))])/\Below w.heap.size w w':=by
 refine(qU A hn (by obtain⟨o,a,_⟩:=A.ex;exact a)).mono ?_
 intro e w' h;exact sY h
def dz(l:List Int):RSt:=thr rnx [(0,0),(0,1),(2,2),(1,3),(0,4),(1,5),(0,6),(2,7),(2,8),(2,9)] (0,l,fun _=>0)
theorem outVal{s:RSt}(h:iG w iS 10 mkA s e w'):∃ a2 n2 c2 a7 n7 c7 a8 n8 c8 a9 n9 c9,e=.returned (.tuple #[.agg #[.int .u64 (aR s 0),.int .u64 (aR s 1),.slice a2 n2 c2,.bool (aR s 3 == 1),.int .u64 (aR s 4),.bool (aR s 5 == 1),.int .u64 (aR s 6),.slice a7 n7 c7,.slice a8 n8 c8,.slice a9 n9 c9],.int .i64 (gS s)])/\(du w' w.heap.size a2 n2 c2 (aR s 2)/\n2<=510)/\(du w' w.heap.size a7 n7 c7 (aR s 7)/\n7<=510)/\(du w' w.heap.size a8 n8 c8 (aR s 8)/\n8<=510)/\(du w' w.heap.size a9 n9 c9 (aR s 9)/\n9<=510)/\Below w.heap.size w w':=by
 obtain⟨⟨cs,xs,r,rfl,C,a,o,l⟩,B⟩:=h;obtain⟨e1,e2⟩:=kO o l;subst e1 e2;have q0:=(a 0).1 rfl;have q1:=(a 1).1 rfl;obtain⟨a2,n2,c2,t,y,z2⟩:=(a 2).2.2 rfl;obtain⟨t3,f,b⟩:=(a 3).2.1 rfl
 have b:(aR s 3 == 1)=t3:=by rw[b];cases t3<;>rfl
 rw[<- b] at f;have x:=(a 4).1 rfl;obtain⟨t5,g,d⟩:=(a 5).2.1 rfl
 have d:(aR s 5 == 1)=t5:=by rw[d];cases t5<;>rfl
 rw[<- d] at g;have v:=(a 6).1 rfl;obtain⟨a7,n7,c7,u,j,A⟩:=(a 7).2.2 rfl;obtain⟨a8,n8,c8,q,m,D⟩:=(a 8).2.2 rfl;obtain⟨a9,n9,c9,k,p,z⟩:=(a 9).2.2 rfl
 have c:cs=[.int .u64 (aR s 0),.int .u64 (aR s 1),.slice a2 n2 c2,.bool (aR s 3 == 1),.int .u64 (aR s 4),.bool (aR s 5 == 1),.int .u64 (aR s 6),.slice a7 n7 c7,.slice a8 n8 c8,.slice a9 n9 c9]:=by
  refine List.ext_getElem? fun i=>?_
  rcases Nat.lt_or_ge i 10 with hi | hi
  ·match i,hi with
   | 0,_=>exact q0
   | 1,_=>exact q1
   | 2,_=>exact t
   | 3,_=>exact f
   | 4,_=>exact x
   | 5,_=>exact g
   | 6,_=>exact v
   | 7,_=>exact u
   | 8,_=>exact q
   | 9,_=>exact k
   | n+10,h=>exact absurd h (by omega)
  ·rw[List.getElem?_eq_none (by omega),List.getElem?_eq_none hi]
 subst c;exact⟨a2,n2,c2,a7,n7,c7,a8,n8,c8,a9,n9,c9,rfl,⟨y,by omega⟩,⟨j,by omega⟩,⟨m,by omega⟩,⟨p,by omega⟩,B⟩
theorem oVal(A:ByA w bb ao n c l)(hn:n<=1000000000):Calls Tryz.prog 43 #[.slice ao n c] w fun e w'=>∃ a2 n2 c2 a7 n7 c7 a8 n8 c8 a9 n9 c9,e=.returned (.tuple #[.agg #[.int .u64 (aR (dz l) 0),.int .u64 (aR (dz l) 1),.slice a2 n2 c2,.bool (aR (dz l) 3 == 1),.int .u64 (aR (dz l) 4),.bool (aR (dz l) 5 == 1),.int .u64 (aR (dz l) 6),.slice a7 n7 c7,.slice a8 n8 c8,.slice a9 n9 c9],.int .i64 (gS (dz l))])/\(du w' w.heap.size a2 n2 c2 (aR (dz l) 2)/\n2<=510)/\(du w' w.heap.size a7 n7 c7 (aR (dz l) 7)/\n7<=510)/\(du w' w.heap.size a8 n8 c8 (aR (dz l) 8)/\n8<=510)/\(du w' w.heap.size a9 n9 c9 (aR (dz l) 9)/\n9<=510)/\Below w.heap.size w w':=by
 refine(EP A hn (by obtain⟨o,a,_⟩:=A.ex;exact a)).mono ?_
 intro e w' h;exact outVal h
def fV(l:List Int):RSt:=thr rnx [(2,0),(0,1)] (0,l,fun _=>0)
theorem tU{s:RSt}(h:iG w dQ 2 mkA s e w'):∃ a0 n0 c0,e=.returned (.tuple #[.agg #[.slice a0 n0 c0,.int .u64 (aR s 1)],.int .i64 (gS s)])/\(du w' w.heap.size a0 n0 c0 (aR s 0)/\n0<=510)/\Below w.heap.size w w':=by
 obtain⟨⟨cs,xs,r,rfl,g,b,d,c⟩,B⟩:=h;obtain⟨e1,e2⟩:=kO d c;subst e1 e2;obtain⟨a0,n0,c0,q0,f,z0⟩:=(b 0).2.2 rfl;have q1:=(b 1).1 rfl
 have a:cs=[.slice a0 n0 c0,.int .u64 (aR s 1)]:=by
  refine List.ext_getElem? fun i=>?_
  rcases Nat.lt_or_ge i 2 with hi | hi
  ·match i,hi with
   | 0,_=>exact q0
   | 1,_=>exact q1
   | n+2,h=>exact absurd h (by omega)
  ·rw[List.getElem?_eq_none (by omega),List.getElem?_eq_none hi]
 subst a;exact⟨a0,n0,c0,rfl,⟨f,by omega⟩,B⟩
theorem Ci(A:ByA w bb ao n c l)(hn:n<=1000000000):Calls Tryz.prog 220 #[.slice ao n c] w fun e w'=>∃ a0 n0 c0,e=.returned (.tuple #[.agg #[.slice a0 n0 c0,.int .u64 (aR (fV l) 1)],.int .i64 (gS (fV l))])/\(du w' w.heap.size a0 n0 c0 (aR (fV l) 0)/\n0<=510)/\Below w.heap.size w w':=by
 refine(rH A hn (by obtain⟨o,a,_⟩:=A.ex;exact a)).mono ?_
 intro e w' h;exact tU h
end
end Rc
end
end Go.Proofs.YtpoifdokmjhclaaGreat
