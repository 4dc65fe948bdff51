import Derived.Test.YtgdohcdlkonhiaaGreatDoorJak
set_option maxRecDepth 100000
set_option maxHeartbeats 8000000
namespace Go.Proofs.YtgdohcdlkonhiaaGreatDoor
section
namespace Rc
open Go.RowKit Go.Lib Pg Lim Gl
section
variable {xs:Nat->Int}{w w':World}{e:Ending}{bb n c:Nat}{ao:Option Addr}{l:List Int}
def eN(s:RSt):Int:=if dA s.1 s.2.1=0 then 0 else 80
def aP(s:RSt):Nat->Int:=if dA s.1 s.2.1=0 then s.2.2 else fun _=>0
theorem jA{s:RSt}{r:Int}(h1:dA s.1 s.2.1=0->r=0/\xs=s.2.2)(a:dA s.1 s.2.1≠0->r=80/\xs=fun _=>0):xs=aP s/\r=eN s:=by
 unfold aP eN;by_cases h:dA s.1 s.2.1=0
 ·rw[if_pos h,if_pos h];exact⟨(h1 h).2,(h1 h).1⟩
 ·rw[if_neg h,if_neg h];exact⟨(a h).2,(a h).1⟩
def bp(l:List Int):RSt:=thr rnx [(0,0),(0,1),(0,2),(0,3),(0,4),(0,5),(0,6),(0,7),(0,8),(0,9)] (0,l,fun _=>0)
theorem outParams{s:RSt}(h:gJ w eM 10 mkA s e w'):e=.returned (.tuple #[.agg #[.int .u64 (aP s 0),.int .u64 (aP s 1),.int .u64 (aP s 2),.int .u64 (aP s 3),.int .u64 (aP s 4),.int .u64 (aP s 5),.int .u64 (aP s 6),.int .u64 (aP s 7),.int .u64 (aP s 8),.int .u64 (aP s 9)],.int .i64 (eN s)])/\Below w.heap.size w w':=by
 obtain⟨⟨cs,xs,r,rfl,q,a,m,g⟩,B⟩:=h;obtain⟨e1,e2⟩:=jA m g;subst e1 e2;have q0:=(a 0).1 rfl;have q1:=(a 1).1 rfl;have p:=(a 2).1 rfl;have j:=(a 3).1 rfl;have l:=(a 4).1 rfl;have k:=(a 5).1 rfl;have f:=(a 6).1 rfl;have d:=(a 7).1 rfl;have o:=(a 8).1 rfl;have c:=(a 9).1 rfl
 have b:cs=[.int .u64 (aP s 0),.int .u64 (aP s 1),.int .u64 (aP s 2),.int .u64 (aP s 3),.int .u64 (aP s 4),.int .u64 (aP s 5),.int .u64 (aP s 6),.int .u64 (aP s 7),.int .u64 (aP s 8),.int .u64 (aP s 9)]:=by
  refine List.ext_getElem? fun i=>?_
  rcases Nat.lt_or_ge i 10 with hi | hi
  ·match i,hi with
   | 0,_=>exact q0
   | 1,_=>exact q1
   | 2,_=>exact p
   | 3,_=>exact j
   | 4,_=>exact l
   | 5,_=>exact k
   | 6,_=>exact f
   | 7,_=>exact d
   | 8,_=>exact o
   | 9,_=>exact c
   | n+10,h=>exact absurd h (by omega)
  ·rw[List.getElem?_eq_none (by omega),List.getElem?_eq_none hi]
 subst b;exact⟨rfl,B⟩
theorem CO(A:ByA w bb ao n c l)(hn:n<=1000000000):Calls Tryz.prog 67 #[.slice ao n c] w fun e w'=>e=.returned (.tuple #[.agg #[.int .u64 (aP (bp l) 0),.int .u64 (aP (bp l) 1),.int .u64 (aP (bp l) 2),.int .u64 (aP (bp l) 3),.int .u64 (aP (bp l) 4),.int .u64 (aP (bp l) 5),.int .u64 (aP (bp l) 6),.int .u64 (aP (bp l) 7),.int .u64 (aP (bp l) 8),.int .u64 (aP (bp l) 9)],.int .i64 (eN (bp l))])/\Below w.heap.size w w':=by
 refine(uA A hn (by obtain⟨o,a,_⟩:=A.ex;exact a)).mono ?_
 intro e w' h;exact outParams h
theorem outChain{s:RSt}(h:gJ w ix 2 mkA s e w'):e=.returned (.tuple #[.agg #[.int .u64 (aP s 0),.int .u64 (aP s 1)],.int .i64 (eN s)])/\Below w.heap.size w w':=by
 obtain⟨⟨cs,xs,r,rfl,f,b,d,c⟩,B⟩:=h;obtain⟨e1,e2⟩:=jA d c;subst e1 e2;have q0:=(b 0).1 rfl;have q1:=(b 1).1 rfl
 have a:cs=[.int .u64 (aP s 0),.int .u64 (aP s 1)]:=by
  refine List.ext_getElem? fun i=>?_
  rcases Nat.lt_or_ge i 2 with hi | hi
  ·match i,hi with
   | 0,_=>exact q0
   | 1,_=>exact q1
   | n+2,h=>exact absurd h (by omega)
  ·rw[List.getElem?_eq_none (by omega),List.getElem?_eq_none hi]
 subst a;exact⟨rfl,B⟩
def mr(l:List Int):RSt:=thr rnx [(2,0)] (0,l,fun _=>0)
theorem CV{s:RSt}(h:gJ w gV 1 mkA s e w'):∃ a0 n0 c0,e=.returned (.tuple #[.agg #[.slice a0 n0 c0],.int .i64 (eN s)])/\(da w' w.heap.size a0 n0 c0 (aP s 0)/\n0<=510)/\Below w.heap.size w w':=by
 obtain⟨⟨cs,xs,r,rfl,g,b,d,c⟩,B⟩:=h;obtain⟨e1,e2⟩:=jA d c;subst e1 e2;obtain⟨a0,n0,c0,q0,f,z0⟩:=(b 0).2.2 rfl
 have a:cs=[.slice a0 n0 c0]:=by
  refine List.ext_getElem? fun i=>?_
  rcases Nat.lt_or_ge i 1 with hi | hi
  ·match i,hi with
   | 0,_=>exact q0
   | n+1,h=>exact absurd h (by omega)
  ·rw[List.getElem?_eq_none (by omega),List.getElem?_eq_none hi]
 subst a;exact⟨a0,n0,c0,rfl,⟨f,by omega⟩,B⟩
theorem oPool(A:ByA w bb ao n c l)(hn:n<=1000000000):Calls Tryz.prog 76 #[.slice ao n c] w fun e w'=>∃ a0 n0 c0,e=.returned (.tuple #[.agg #[.slice a0 n0 c0],.int .i64 (eN (mr l))])/\(da w' w.heap.size a0 n0 c0 (aP (mr l) 0)/\n0<=510)/\Below w.heap.size w w':=by
 refine(zU A hn (by obtain⟨o,a,_⟩:=A.ex;exact a)).mono ?_
 intro e w' h;exact CV h
def dq(l:List Int):RSt:=thr rnx [(0,0),(0,1)] (0,l,fun _=>0)
theorem tm{s:RSt}(h:gJ w eh 2 mkA s e w'):e=.returned (.tuple #[.agg #[.int .u64 (aP s 0),.int .u64 (aP s 1)],.int .i64 (eN s)])/\Below w.heap.size w w':=by
 obtain⟨⟨cs,xs,r,rfl,f,b,d,c⟩,B⟩:=h;obtain⟨e1,e2⟩:=jA d c;subst e1 e2;have q0:=(b 0).1 rfl;have q1:=(b 1).1 rfl
 have a:cs=[.int .u64 (aP s 0),.int .u64 (aP s 1)]:=by
  refine List.ext_getElem? fun i=>?_
  rcases Nat.lt_or_ge i 2 with hi | hi
  ·match i,hi with
   | 0,_=>exact q0
   | 1,_=>exact q1
   | n+2,h=>exact absurd h (by omega)
  ·rw[List.getElem?_eq_none (by omega),List.getElem?_eq_none hi]
 subst a;exact⟨rfl,B⟩
theorem xL(A:ByA w bb ao n c l)(hn:n<=1000000000):Calls Tryz.prog 84 #[.slice ao n c] w fun e w'=>e=.returned (.tuple #[.agg #[.int .u64 (aP (dq l) 0),.int .u64 (aP (dq l) 1)],.int .i64 (eN (dq l))])/\Below w.heap.size w w':=by
 refine(qY A hn (by obtain⟨o,a,_⟩:=A.ex;exact a)).mono ?_
 intro e w' h;exact tm h
def dF(l:List Int):RSt:=thr rnx [(0,0),(0,1),(2,2),(1,3),(0,4),(1,5),(0,6),(2,7),(2,8),(2,9)] (0,l,fun _=>0)
theorem outVal{s:RSt}(h:gJ w jj 10 mkA s e w'):∃ a2 n2 c2 a7 n7 c7 a8 n8 c8 a9 n9 c9,e=.returned (.tuple #[.agg #[.int .u64 (aP s 0),.int .u64 (aP s 1),.slice a2 n2 c2,.bool (aP s 3 == 1),.int .u64 (aP s 4),.bool (aP s 5 == 1),.int .u64 (aP s 6),.slice a7 n7 c7,.slice a8 n8 c8,.slice a9 n9 c9],.int .i64 (eN s)])/\(da w' w.heap.size a2 n2 c2 (aP s 2)/\n2<=510)/\(da w' w.heap.size a7 n7 c7 (aP s 7)/\n7<=510)/\(da w' w.heap.size a8 n8 c8 (aP s 8)/\n8<=510)/\(da w' w.heap.size a9 n9 c9 (aP s 9)/\n9<=510)/\Below w.heap.size w w':=by
 obtain⟨⟨cs,xs,r,rfl,A,a,o,l⟩,B⟩:=h;obtain⟨e1,e2⟩:=jA o l;subst e1 e2;have q0:=(a 0).1 rfl;have q1:=(a 1).1 rfl;obtain⟨a2,n2,c2,t,y,z2⟩:=(a 2).2.2 rfl;obtain⟨t3,f,b⟩:=(a 3).2.1 rfl
 have b:(aP s 3 == 1)=t3:=by rw[b];cases t3<;>rfl
 rw[<- b] at f;have x:=(a 4).1 rfl;obtain⟨t5,g,d⟩:=(a 5).2.1 rfl
 have d:(aP s 5 == 1)=t5:=by rw[d];cases t5<;>rfl
 rw[<- d] at g;have v:=(a 6).1 rfl;obtain⟨a7,n7,c7,u,j,z⟩:=(a 7).2.2 rfl;obtain⟨a8,n8,c8,q,m,C⟩:=(a 8).2.2 rfl;obtain⟨a9,n9,c9,k,p,z9⟩:=(a 9).2.2 rfl
 have c:cs=[.int .u64 (aP s 0),.int .u64 (aP s 1),.slice a2 n2 c2,.bool (aP s 3 == 1),.int .u64 (aP s 4),.bool (aP s 5 == 1),.int .u64 (aP s 6),.slice a7 n7 c7,.slice a8 n8 c8,.slice a9 n9 c9]:=by
  refine List.ext_getElem? fun i=>?_
  rcases Nat.lt_or_ge i 10 with hi | hi
  ·match i,hi with
   | 0,_=>exact q0
   | 1,_=>exact q1
   | 2,_=>exact t
   | 3,_=>exact f
   | 4,_=>exact x
   | 5,_=>exact g
   | 6,_=>exact v
   | 7,_=>exact u
   | 8,_=>exact q
   | 9,_=>exact k
   | n+10,h=>exact absurd h (by omega)
  ·rw[List.getElem?_eq_none (by omega),List.getElem?_eq_none hi]
 subst c;exact⟨a2,n2,c2,a7,n7,c7,a8,n8,c8,a9,n9,c9,rfl,⟨y,by omega⟩,⟨j,by omega⟩,⟨m,by omega⟩,⟨p,by omega⟩,B⟩
theorem oVal(A:ByA w bb ao n c l)(hn:n<=1000000000):Calls Tryz.prog 78 #[.slice ao n c] w fun e w'=>∃ a2 n2 c2 a7 n7 c7 a8 n8 c8 a9 n9 c9,e=.returned (.tuple #[.agg #[.int .u64 (aP (dF l) 0),.int .u64 (aP (dF l) 1),.slice a2 n2 c2,.bool (aP (dF l) 3 == 1),.int .u64 (aP (dF l) 4),.bool (aP (dF l) 5 == 1),.int .u64 (aP (dF l) 6),.slice a7 n7 c7,.slice a8 n8 c8,.slice a9 n9 c9],.int .i64 (eN (dF l))])/\(da w' w.heap.size a2 n2 c2 (aP (dF l) 2)/\n2<=510)/\(da w' w.heap.size a7 n7 c7 (aP (dF l) 7)/\n7<=510)/\(da w' w.heap.size a8 n8 c8 (aP (dF l) 8)/\n8<=510)/\(da w' w.heap.size a9 n9 c9 (aP (dF l) 9)/\n9<=510)/\Below w.heap.size w w':=by
 refine(DH A hn (by obtain⟨o,a,_⟩:=A.ex;exact a)).mono ?_
 intro e w' h;exact outVal h
def cA(l:List Int):RSt:=thr rnx [(2,0),(0,1),(2,2)] (0,l,fun _=>0)
theorem ox{s:RSt}(h:gJ w cX 3 mkA s e w'):∃ a0 n0 c0 a2 n2 c2,e=.returned (.tuple #[.agg #[.slice a0 n0 c0,.int .u64 (aP s 1),.slice a2 n2 c2],.int .i64 (eN s)])/\(da w' w.heap.size a0 n0 c0 (aP s 0)/\n0<=510)/\(da w' w.heap.size a2 n2 c2 (aP s 2)/\n2<=510)/\Below w.heap.size w w':=by
 obtain⟨⟨cs,xs,r,rfl,k,a,d,c⟩,B⟩:=h;obtain⟨e1,e2⟩:=jA d c;subst e1 e2;obtain⟨a0,n0,c0,q0,f,z0⟩:=(a 0).2.2 rfl;have q1:=(a 1).1 rfl;obtain⟨a2,n2,c2,g,j,z2⟩:=(a 2).2.2 rfl
 have b:cs=[.slice a0 n0 c0,.int .u64 (aP s 1),.slice a2 n2 c2]:=by
  refine List.ext_getElem? fun i=>?_
  rcases Nat.lt_or_ge i 3 with hi | hi
  ·match i,hi with
   | 0,_=>exact q0
   | 1,_=>exact q1
   | 2,_=>exact g
   | n+3,h=>exact absurd h (by omega)
  ·rw[List.getElem?_eq_none (by omega),List.getElem?_eq_none hi]
 subst b;exact⟨a0,n0,c0,a2,n2,c2,rfl,⟨f,by omega⟩,⟨j,by omega⟩,B⟩
theorem rF(A:ByA w bb ao n c l)(hn:n<=1000000000):Calls Tryz.prog 144 #[.slice ao n c] w fun e w'=>∃ a0 n0 c0 a2 n2 c2,e=.returned (.tuple #[.agg #[.slice a0 n0 c0,.int .u64 (aP (cA l) 1),.slice a2 n2 c2],.int .i64 (eN (cA l))])/\(da w' w.heap.size a0 n0 c0 (aP (cA l) 0)/\n0<=510)/\(da w' w.heap.size a2 n2 c2 (aP (cA l) 2)/\n2<=510)/\Below w.heap.size w w':=by
 refine(mI A hn (by obtain⟨o,a,_⟩:=A.ex;exact a)).mono ?_
 intro e w' h;exact ox h
def et(l:List Int):RSt:=thr rnx [(2,0),(0,1)] (0,l,fun _=>0)
theorem tY{s:RSt}(h:gJ w ep 2 mkA s e w'):∃ a0 n0 c0,e=.returned (.tuple #[.agg #[.slice a0 n0 c0,.int .u64 (aP s 1)],.int .i64 (eN s)])/\(da w' w.heap.size a0 n0 c0 (aP s 0)/\n0<=510)/\Below w.heap.size w w':=by
 obtain⟨⟨cs,xs,r,rfl,g,b,d,c⟩,B⟩:=h;obtain⟨e1,e2⟩:=jA d c;subst e1 e2;obtain⟨a0,n0,c0,q0,f,z0⟩:=(b 0).2.2 rfl;have q1:=(b 1).1 rfl
 have a:cs=[.slice a0 n0 c0,.int .u64 (aP s 1)]:=by
  refine List.ext_getElem? fun i=>?_
  rcases Nat.lt_or_ge i 2 with hi | hi
  ·match i,hi with
   | 0,_=>exact q0
   | 1,_=>exact q1
   | n+2,h=>exact absurd h (by omega)
  ·rw[List.getElem?_eq_none (by omega),List.getElem?_eq_none hi]
 subst a;exact⟨a0,n0,c0,rfl,⟨f,by omega⟩,B⟩
theorem A7(A:ByA w bb ao n c l)(hn:n<=1000000000):Calls Tryz.prog 173 #[.slice ao n c] w fun e w'=>∃ a0 n0 c0,e=.returned (.tuple #[.agg #[.slice a0 n0 c0,.int .u64 (aP (et l) 1)],.int .i64 (eN (et l))])/\(da w' w.heap.size a0 n0 c0 (aP (et l) 0)/\n0<=510)/\Below w.heap.size w w':=by
 refine(rL A hn (by obtain⟨o,a,_⟩:=A.ex;exact a)).mono ?_
 intro e w' h;exact tY h
end
end Rc
end
end Go.Proofs.YtgdohcdlkonhiaaGreatDoor
