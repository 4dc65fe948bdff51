/- Several texts, joined: KvCb, KvLi, KvCc, KvCd, KvCe, KvCg. -/
import Derived.Test.YthfepflplbahkaaGreatDoorJai
import Derived.Lib.SlBytesConst
set_option maxRecDepth 100000
set_option maxHeartbeats 8000000
namespace Go.Proofs.YthfepflplbahkaaGreatDoor
section
namespace Kv
open Go.RowKit Go.Lib Pg
section
variable {w0 w:World}{g n N n' N':Nat}{E E' F:aE}{W:List aE}{kv pv:Value}{k p:List Int}{r:Int}
attribute [local go_sem] Oper.semAt_some
theorem pX:Tryz.prog.underlying 5=some (.int .u8):=by kernel_rfl
theorem cA:Tryz.prog.underlying 96=some (.slice 5):=by kernel_rfl
theorem di(w:World)(o:Obj):(w.alloc o).heap.size=w.heap.size + 1:=by
 show (w.heap.push o).size=_
 rw[Array.size_push]
theorem conv2(w:World)(o:Obj)(C:Array Value)(n c:Nat):(convert 96 96 (.slice (some ⟨w.heap.size + 1,0,none⟩) n c)).run Tryz.prog ((w.alloc o).alloc (.cells C 5))=.ok (.slice (some ⟨w.heap.size + 1,0,none⟩) n c) ((w.alloc o).alloc (.cells C 5 (C.size,C.size + 1))):=by
 have h:=Lib.run_convert_bytes_const (P:=Tryz.prog) (w.alloc o) 96 5 C n c cA pX;rw[di] at h;exact h
theorem Kn.abc{f:Fm}(h:Kn w0 w f g E W n N){x y z:Int}(hx:0<=x/\x < 256)(hy:0<=y/\y < 256)(b:0<=z/\z < 256):Kn w0 (((w.alloc (.cells #[.int .u8 x] 5 (1,2))).alloc (.cells #[.int .u8 y] 5 (1,2))).alloc (.cells #[.int .u8 z] 5)) (((f.by (.slice (some ⟨w.heap.size,0,none⟩) 1 1) [x]).by (.slice (some ⟨w.heap.size + 1,0,none⟩) 1 1) [y]).by (.slice (some ⟨w.heap.size + 1 + 1,0,none⟩) 1 1) [z]) g E W n N:=by
 have a:=((h.const hx).const hy).lit b;simp only[di] at a;exact a
theorem kset1{f:Fm}{vv:Value}{v:List Int}(h:Kn w0 w f g E W n N)(c:Fr w0 f kv k)(hv:Fr w0 f vv v)(hn:n<=4000000000000000000)(d:N + 2<=100000000)(a:(if fL k v=0 then put E k v else E)=E')(b:fL k v=r)(e1:n + 1=n')(e2:N + 2=N') :
  Calls Tryz.prog 64 #[.pointer (some ⟨g,0,none⟩),kv,vv] w (Fin w0 f g E' W n' N' (.int .i64 r)):=by
 subst a b e1 e2; exact kset h c hv hn d
theorem kdel1{f:Fm}{r:Bool}(h:Kn w0 w f g E W n N)(d:Fr w0 f kv k)(a:k.length<=1000000000)(hn:n<=4000000000000000000)(e:N + 2<=100000000)(b:rem E k=E')(c:(look E k).isSome=r)(e1:n + 1=n')(e2:N + 2=N') :
  Calls Tryz.prog 75 #[.pointer (some ⟨g,0,none⟩),kv] w (Fin w0 f g E' W n' N' (.bool r)):=by
 subst b c e1 e2; exact kdel h d a hn e
theorem kdp1{f:Fm}(h:Kn w0 w f g E W n N)(hr:((W.length:Nat):Int)=r) :
  Calls Tryz.prog 143 #[.pointer (some ⟨g,0,none⟩)] w fun e w'=>e=.returned (.int .i64 r)/\w'=w:=by
 subst hr; exact kdepth h
structure FinV(w0:World)(f:Fm)(g:Nat)(E:aE)(W:List aE)(n N:Nat)(b:Bool)(l:List Int)(e:Ending)(w':World):Prop where
 ex:∃ v,e=.returned (.tuple #[v,.bool b])/\Kn w0 w' (f.by v l) g E W n N
theorem kgt1{f:Fm}{l:List Int}{b:Bool}(h:Kn w0 w f g E W n N)(a:Fr w0 f kv k)(hn:n<=4000000000000000000)(d:N<=100000000)(hb:(look E k).isSome=b)(c:(look E k).getD []=l)(e1:n + 1=n') :
  Calls Tryz.prog 127 #[.pointer (some ⟨g,0,none⟩),kv] w (FinV w0 f g E W n' N b l):=by
 subst hb c e1;refine(kget h a hn d).mono ?_
 rintro e i ⟨v,rfl,h⟩;exact⟨v,rfl,h⟩
structure FinL(w0:World)(f:Fm)(g:Nat)(E:aE)(W:List aE)(n N m:Nat)(F:aE)(e:Ending)(w':World):Prop where
 ex:∃ ao c,e=.returned (.slice ao m c)/\Kn w0 w' (f.pr (.slice ao m c) F) g E W n N
theorem kdm1{f:Fm}{a:Nat}(h:Kn w0 w f g E W n N)(d:N<=100000000)(e2:E.length=a) :
  Calls Tryz.prog 15 #[.pointer (some ⟨g,0,none⟩)] w (FinL w0 f g E W n N a E):=by
 subst e2;refine(Hw h d).mono ?_
 rintro e i ⟨b,c,rfl,h⟩;exact⟨b,c,rfl,h⟩
theorem kpf1{f : Fm}(h : Kn w0 w f g E W n N)(c : N ≤ 100000000)(b : Fr w0 f pv p)(a : p.length ≤ 1000000)(hF : E.filter (fun x => decide (p <+: x.1)) = F) :
    Calls Tryz.prog 73 #[.pointer (some ⟨g, 0, none⟩), pv] w (Gu w0 f g E W n N F) := by
  subst hF; exact Hi h c b a
theorem kwk1{f:Fm}(h:Kn w0 w f g E W n N)(a:N<=100000000)(hF:E.filter (jM [] [])=F) :
  Calls Tryz.prog 83 #[.pointer (some ⟨g,0,none⟩),.slice none 0 0,.slice none 0 0] w (Gu w0 f g E W n N F):=by
 subst hF; exact kwalk h a (.inl (By.nil _)) (.inl (By.nil _)) (by decide) (by decide)
end
end Kv
end
section
namespace Kv
open Go.RowKit Go.Lib Pg
section
variable {w w':World}{ao:Option Addr}{n i:Nat}
attribute [local go_sem] Oper.semAt_some
structure Ste where
 what:Int
 num:Int
 ka:Option Addr
 kc:Nat
 kl:List Int
 va:Option Addr
 vc:Nat
 vl:List Int
def Ste.kv(s:Ste):Value:=.slice s.ka s.kl.length s.kc
def Ste.vv(s:Ste):Value:=.slice s.va s.vl.length s.vc
structure AU(w:World)(s:Ste):Prop where
 w1 : -9223372036854775808<=s.what
 w2:s.what<=9223372036854775807
 n1 : -9223372036854775808<=s.num
 n2:s.num<=9223372036854775807
 k:By w s.kv s.kl
 kb:s.kl.length<=140737488355328
 v:By w s.vv s.vl
 vb:s.vl.length<=140737488355328
theorem AU.keep{s:Ste}(h:AU w s)(hb:Below w.heap.size w w'):AU w' s:=⟨h.w1,h.w2,h.n1,h.n2,h.k.keep hb,h.kb,h.v.keep hb,h.vb⟩
structure Ao(w:World)(b o:Nat)(s:Ste):Prop where
 c0:w.cell? ⟨b,o,none⟩=some (.int .i64 s.what)
 c1:w.cell? ⟨b,o + 1,none⟩=some (.int .i64 s.num)
 c2:w.cell? ⟨b,o + 2,none⟩=some s.kv
 c3:w.cell? ⟨b,o + 3,none⟩=some s.vv
theorem Ao.keep{b o:Nat}{s:Ste}(h:Ao w b o s)(hb:Below w.heap.size w w'):Ao w' b o s:=by
 have k:∀ {q:Nat} {v:Value},w.cell? ⟨b,q,none⟩=some v->w'.cell? ⟨b,q,none⟩=some v:=fun {q v} hc=>by
  have a:=aK hc;rw[World.cell?_of_block (w:=w) (hb.block b a)];exact hc
 exact⟨k h.c0,k h.c1,k h.c2,k h.c3⟩
structure o7(w:World)(ao:Option Addr)(n:Nat)(ss:List Ste):Prop where
 len:ss.length=n
 le:n<=9223372036854775807
 get:∀ i s,ss[i]? = some s->∃ b o,ao=some ⟨b,o,none⟩/\Ao w b (o + i * 4) s/\AU w s
theorem o7.keep{ss:List Ste}(h:o7 w ao n ss)(hb:Below w.heap.size w w'):o7 w' ao n ss :=
 ⟨h.len,h.le,fun i s hs=>by
  obtain⟨b,o,h1,h2,h3⟩:=h.get i s hs
  exact⟨b,o,h1,h2.keep hb,h3.keep hb⟩⟩
theorem o7.at{a:List Ste}(h:o7 w ao n a)(hi:i < n):∃ s b o,a[i]? = some s/\ao=some ⟨b,o,none⟩/\Ao w b (o + i * 4) s/\AU w s:=by
 have g:=h.len
 have e:a[i]? = some a[i]:=List.getElem?_eq_getElem (by omega);obtain⟨b,o,f,c,d⟩:=h.get i _ e;exact⟨_,b,o,e,f,c,d⟩
def hvy:List Ste->Nat
 | []=>0
 | s :: r=>s.kl.length + s.vl.length + hvy r
theorem DM(l:List Ste)(s:Ste):hvy (l ++ [s])=hvy l + (s.kl.length + s.vl.length):=by
 induction l with
 | nil=>simp[hvy]
 | cons x l ih=>simp only[List.cons_append,hvy,ih]; omega
theorem CU{l:List Ste}{s:Ste}(h:l[i]? = some s):hvy (l.take (i + 1))=hvy (l.take i) + (s.kl.length + s.vl.length):=by
 rw[List.take_add_one,h];simp[DM]
theorem vX(l r:List Ste):hvy (l ++ r)=hvy l + hvy r:=by
 induction l with
 | nil=>simp[hvy]
 | cons x l ih=>simp only[List.cons_append,hvy,ih]; omega
theorem hvy_le(l:List Ste)(k:Nat):hvy (l.take k)<=hvy l:=by
 have:=vX (l.take k) (l.drop k);rw[List.take_append_drop] at this;omega
theorem hvy_mem{l:List Ste}{s:Ste}(h:l[i]? = some s):s.kl.length + s.vl.length<=hvy l:=by
 have h1:=CU h;have h2:=hvy_le l (i + 1);omega
def lite(n h:Nat):Bool:=decide (n + h<=8000/\n<=400)
theorem lite_yes{h:Nat}(e:lite n h=true):n + h<=8000/\n<=400:=by unfold lite at e; simpa using e
end
end Kv
end
section
namespace Kv
open Go.RowKit Go.Lib Pg
section
variable {B g:Nat}{w w' w0:World}{E:aE}{W:List aE}{kv:Value}{k:List Int}
attribute [local go_sem] Oper.semAt_some
theorem eP(w:World):Below w.heap.size w w.drew:=⟨rfl,rfl,rfl,Nat.le_refl _,fun _ _=>rfl⟩
theorem pcells2{p i j:Nat}{a b:Value}(h:w.cell? ⟨p,i,none⟩=some a/\w.cell? ⟨p,j,none⟩=some b)(c:p < B)(hb:Below B w w'):w'.cell? ⟨p,i,none⟩=some a/\w'.cell? ⟨p,j,none⟩=some b:=by
 refine⟨?_,?_⟩
 ·rw[hb.cell (p:=⟨p,i,none⟩) c]; exact h.1
 ·rw[hb.cell (p:=⟨p,j,none⟩) c]; exact h.2
theorem Hv(h:Below B w.drew w'):Below B w w':=⟨h.os,h.tape,h.output,h.size,h.block⟩
theorem lt_nil(x:List Int):¬ Lt x []:=by
 unfold Lt
 cases x<;>simp[cY]
theorem filter_all(l:List KV):l.filter (jM [] [])=l:=by
 rw[List.filter_eq_self];intro x _;simp[jM,lt_nil]
structure KB(w0 w:World)(f:Fm)(g:Nat)(E:aE)(W:List aE)(B:Nat):Prop where
 ex:∃ n N,Kn w0 w f g E W n N/\n<=10 * B/\N<=2 * B
structure FinB(w0:World)(f:Fm)(g:Nat)(E:aE)(W:List aE)(B:Nat)(r:Value)(e:Ending)(w':World):Prop where
 ret:e=.returned r
 kb:KB w0 w' f g E W B
def GI(E:aE)(k v:List Int):aE:=if fL k v=0 then put E k v else E
theorem KB.keep{f:Fm}(h:KB w0 w f g E W B)(hb:Below w.heap.size w w'):KB w0 w' f g E W B:=by
 obtain⟨n,N,h,h1,h2⟩:=h.ex;exact⟨n,N,h.keep hb,h1,h2⟩
theorem KB.drew{f:Fm}(h:KB w0 w f g E W B):KB w0 w.drew f g E W B:=h.keep (eP w)
theorem KB.below{f:Fm}(h:KB w0 w f g E W B):Below w0.heap.size w0 w:=by
 obtain⟨n,N,h,h1,h2⟩:=h.ex;exact h.below
theorem KB.more{f:Fm}{B':Nat}(h:KB w0 w f g E W B)(hB:B<=B'):KB w0 w f g E W B':=by
 obtain⟨n,N,h,h1,h2⟩:=h.ex;exact⟨n,N,h,by omega,by omega⟩
theorem KB.depth{f:Fm}(h:KB w0 w f g E W B):W.length<=16:=by
 obtain⟨n,N,h,h1,h2⟩:=h.ex;exact h.depth
theorem KB.gy{f:Fm}(h:KB w0 w f g E W B):dP E:=by
 obtain⟨n,N,h,h1,h2⟩:=h.ex;exact h.gy
theorem KB.size{f:Fm}(h:KB w0 w f g E W B):E.length<=2 * B:=by
 obtain⟨n,N,h,h1,h2⟩:=h.ex;have:=h.size;omega
theorem KB.small{f:Fm}(h:KB w0 w f g E W B):∀ x∈E,x.1.length<=1000000000/\x.2.length<=1000000000:=by
 obtain⟨n,N,h,h1,h2⟩:=h.ex;obtain⟨K,h⟩:=h.ex;exact h.sa.small
theorem bset{f:Fm}{vv:Value}{v:List Int}(h:KB w0 w f g E W B)(a:Fr w0 f kv k)(hv:Fr w0 f vv v)(i:B<=1000000) :
  Calls Tryz.prog 64 #[.pointer (some ⟨g,0,none⟩),kv,vv] w (FinB w0 f g (GI E k v) W (B + 1) (.int .i64 (fL k v))):=by
 obtain⟨n,N,h,d,b⟩:=h.ex;refine(kset h a hv (by omega) (by omega)).mono ?_
 rintro e c ⟨rfl,h⟩;exact⟨rfl,_,_,h,by omega,by omega⟩
theorem bdel{f:Fm}(h:KB w0 w f g E W B)(b:Fr w0 f kv k)(a:k.length<=1000000000)(j:B<=1000000) :
  Calls Tryz.prog 75 #[.pointer (some ⟨g,0,none⟩),kv] w (FinB w0 f g (rem E k) W (B + 1) (.bool (look E k).isSome)):=by
 obtain⟨n,N,h,i,c⟩:=h.ex;refine(kdel h b a (by omega) (by omega)).mono ?_
 rintro e d ⟨rfl,h⟩;exact⟨rfl,_,_,h,by omega,by omega⟩
structure FinQ(w0:World)(f:Fm)(g:Nat)(E:aE)(W:List aE)(B:Nat)(b:Bool)(l:List Int)(e:Ending)(w':World):Prop where
 ex:∃ v,e=.returned (.tuple #[v,.bool b])/\KB w0 w' (f.by v l) g E W B
theorem bget{f:Fm}(h:KB w0 w f g E W B)(a:Fr w0 f kv k)(i:B<=1000000) :
  Calls Tryz.prog 127 #[.pointer (some ⟨g,0,none⟩),kv] w (FinQ w0 f g E W (B + 1) (look E k).isSome ((look E k).getD [])):=by
 obtain⟨n,N,h,d,b⟩:=h.ex;refine(kget h a (by omega) (by omega)).mono ?_
 rintro e c ⟨v,rfl,h⟩;exact⟨v,rfl,_,_,h,by omega,by omega⟩
def begun(E:aE)(W:List aE):List aE:=if W.length=16 then W else E :: W
theorem bdepth{f:Fm}{r:Int}(h:KB w0 w f g E W B)(a:((W.length:Nat):Int)=r) :
  Calls Tryz.prog 143 #[.pointer (some ⟨g,0,none⟩)] w fun e w'=>e=.returned (.int .i64 r)/\w'=w:=by
 obtain⟨n,N,h,c,b⟩:=h.ex;exact kdp1 h a
structure iQ(w0:World)(f:Fm)(g:Nat)(E:aE)(W:List aE)(B:Nat)(F:aE)(e:Ending)(w':World):Prop where
 ex:∃ ao n c,e=.returned (.slice ao n c)/\KB w0 w' (f.pr (.slice ao n c) F) g E W B
theorem bdump{f:Fm}(h:KB w0 w f g E W B)(j:B<=1000000) :
  Calls Tryz.prog 15 #[.pointer (some ⟨g,0,none⟩)] w (iQ w0 f g E W B E):=by
 obtain⟨n,N,h,i,b⟩:=h.ex;refine(Hw h (by omega)).mono ?_
 rintro e d ⟨a,c,rfl,h⟩;exact⟨a,_,c,rfl,_,_,h,by omega,by omega⟩
structure FinC(w0:World)(e:Ending)(w':World):Prop where
 ex:∃ g,e=.returned (.pointer (some ⟨g,0,none⟩))/\KB w0 w' ⟨[],[],[]⟩ g [] [] 0
theorem bnew(hb:Below w0.heap.size w0 w):Calls Tryz.prog 16 #[] w (FinC w0):=by
 refine(knew hb).mono ?_
 rintro e w' ⟨g,rfl,h⟩;exact⟨g,rfl,_,_,h,by omega,by omega⟩
def AG(E:aE)(what:Int)(k v:List Int):aE:=if what.tmod 2=0 then GI E k v else rem E k
end
end Kv
end
section
namespace Kv
open Go.RowKit Go.Lib Pg
section
variable {w0 w:World}{g g2 B B':Nat}{E E2:aE}{W W2:List aE}{args:Array Value}{r:Value}
structure K2(w0 w:World)(f:Fm)(g:Nat)(E:aE)(W:List aE)(g2:Nat)(E2:aE)(W2:List aE)(B:Nat):Prop where
 ex:∃ n2 N2,KB w0 w (f.st ⟨g2,E2,W2,n2,N2⟩) g E W B/\n2<=10 * B/\N2<=2 * B
structure FinK(w0:World)(f:Fm)(g:Nat)(E:aE)(W:List aE)(g2:Nat)(E2:aE)(W2:List aE)(B:Nat)(r:Value)(e:Ending)(w':World):Prop where
 ret:e=.returned r
 k2:K2 w0 w' f g E W g2 E2 W2 B
theorem K2.swap{f:Fm}(h:K2 w0 w f g E W g2 E2 W2 B):K2 w0 w f g2 E2 W2 g E W B:=by
 obtain⟨n2,N2,h,h1,h2⟩:=h.ex;obtain⟨n,N,h,h3,h4⟩:=h.ex;exact⟨n,N,⟨n2,N2,h.swap rfl,h1,h2⟩,h3,h4⟩
theorem K2.keep{w':World}{f:Fm}(h:K2 w0 w f g E W g2 E2 W2 B)(hb:Below w.heap.size w w'):K2 w0 w' f g E W g2 E2 W2 B:=by
 obtain⟨n2,N2,h,h1,h2⟩:=h.ex;exact⟨n2,N2,h.keep hb,h1,h2⟩
theorem K2.drew{f:Fm}(h:K2 w0 w f g E W g2 E2 W2 B):K2 w0 w.drew f g E W g2 E2 W2 B:=h.keep (eP w)
theorem K2.below{f:Fm}(h:K2 w0 w f g E W g2 E2 W2 B):Below w0.heap.size w0 w:=by
 obtain⟨n2,N2,h,h1,h2⟩:=h.ex;exact h.below
theorem K2.more{f:Fm}(h:K2 w0 w f g E W g2 E2 W2 B)(hB:B<=B'):K2 w0 w f g E W g2 E2 W2 B':=by
 obtain⟨n2,N2,h,h1,h2⟩:=h.ex;exact⟨n2,N2,h.more hB,by omega,by omega⟩
theorem K2.size{f:Fm}(h:K2 w0 w f g E W g2 E2 W2 B):E.length<=2 * B:=by
 obtain⟨n2,N2,h,h1,h2⟩:=h.ex;exact h.size
theorem K2.small{f:Fm}(h:K2 w0 w f g E W g2 E2 W2 B):∀ x∈E,x.1.length<=1000000000/\x.2.length<=1000000000:=by
 obtain⟨n2,N2,h,h1,h2⟩:=h.ex;exact h.small
theorem K2.depth{f:Fm}(h:K2 w0 w f g E W g2 E2 W2 B):W.length<=16:=by
 obtain⟨n2,N2,h,h1,h2⟩:=h.ex;exact h.depth
theorem K2.lift{f:Fm}{E':aE}{a:List aE}{P:Nat}(h:K2 w0 w f g E W g2 E2 W2 B)(u:∀ s,KB w0 w (f.st s) g E W B->Calls Tryz.prog P args w (FinB w0 (f.st s) g E' a B' r))(j:B<=B'):Calls Tryz.prog P args w (FinK w0 f g E' a g2 E2 W2 B' r):=by
 obtain⟨n2,b,h,i,c⟩:=h.ex;refine(u _ h).mono ?_
 rintro e d ⟨rfl,h⟩;exact⟨rfl,n2,b,h,by omega,by omega⟩
structure FinKR(w0:World)(f:Fm)(g:Nat)(E:aE)(W:List aE)(g2:Nat)(E2:aE)(W2:List aE)(B:Nat)(e:Ending)(w':World):Prop where
 ex:∃ ao n c,e=.returned (.slice ao n c)/\K2 w0 w' (f.pr (.slice ao n c) E) g E W g2 E2 W2 B
theorem K2.dump{f:Fm}(h:K2 w0 w f g E W g2 E2 W2 B)(j:B<=1000000):Calls Tryz.prog 15 #[.pointer (some ⟨g,0,none⟩)] w (FinKR w0 f g E W g2 E2 W2 B):=by
 obtain⟨n2,d,h,i,a⟩:=h.ex;refine(bdump h j).mono ?_
 rintro e k ⟨b,n,c,rfl,h⟩;exact⟨b,n,c,rfl,n2,d,h,i,a⟩
theorem K2.dep{f:Fm}{r:Int}(h:K2 w0 w f g E W g2 E2 W2 B)(a:((W.length:Nat):Int)=r):Calls Tryz.prog 143 #[.pointer (some ⟨g,0,none⟩)] w fun e w'=>e=.returned (.int .i64 r)/\w'=w:=by
 obtain⟨n2,b,h,d,c⟩:=h.ex;exact bdepth h a
structure FinD(w0:World)(g:Nat)(e:Ending)(w':World):Prop where
 ex:∃ g2,e=.returned (.pointer (some ⟨g2,0,none⟩))/\K2 w0 w' ⟨[],[],[]⟩ g [] [] g2 [] [] 0
theorem bnew2(h:KB w0 w ⟨[],[],[]⟩ g [] [] 0):Calls Tryz.prog 16 #[] w (FinD w0 g):=by
 obtain⟨n,N,h,b,a⟩:=h.ex;refine(knew2 h).mono ?_
 rintro e c ⟨g2,rfl,h⟩;exact⟨g2,rfl,K2.swap ⟨n,N,⟨_,_,h,by omega,by omega⟩,b,a⟩⟩
end
end Kv
end
section
namespace Kv
open Go.RowKit Go.Lib Pg
section
variable {w0 w:World}{g n N g2 B:Nat}{E E2:aE}{W W2:List aE}{v:Value}{l:List Int}{K D:Nat->Prop}
theorem Kn.drop{f:Fm}(h:Kn w0 w (f.by v l) g E W n N):Kn w0 w f g E W n N:=by
 obtain⟨K,h⟩:=h.ex;exact⟨K,h.sa,h.kz,fun p hp=>h.bys p (List.mem_cons_of_mem _ hp),h.prs,h.oth,h.bel⟩
theorem K2.drop{f:Fm}(h:K2 w0 w (f.by v l) g E W g2 E2 W2 B):K2 w0 w f g E W g2 E2 W2 B:=by
 obtain⟨n2,N2,h,h1,h2⟩:=h.ex;obtain⟨n,N,h,h3,h4⟩:=h.ex;exact⟨n2,N2,⟨n,N,Kn.drop (v:=v) (l:=l) h,h3,h4⟩,h1,h2⟩
theorem K2.lits{f:Fm}(h:K2 w0 w f g E W g2 E2 W2 B){x y:Int}(hx:0<=x/\x < 256)(hy:0<=y/\y < 256):K2 w0 ((w.alloc (.cells #[.int .u8 x] 5)).alloc (.cells #[.int .u8 y] 5)) ((f.by (.slice (some ⟨w.heap.size,0,none⟩) 1 1) [x]).by (.slice (some ⟨w.heap.size + 1,0,none⟩) 1 1) [y]) g E W g2 E2 W2 B:=by
 obtain⟨n2,d,h,i,b⟩:=h.ex;obtain⟨n,N,h,e,c⟩:=h.ex
 have a:=(h.lit hx).lit hy;simp only[di] at a;exact⟨n2,d,⟨n,N,a,e,c⟩,i,b⟩
structure FinX(w0:World)(f:Fm)(g:Nat)(E:aE)(W:List aE)(B:Nat)(e:Ending)(w':World):Prop where
 ex:∃ g2 N2,e=.returned (.pointer (some ⟨g2,0,none⟩))/\KB w0 w' (f.st ⟨g2,E,[],0,N2⟩) g E W B/\N2<=2 * B
theorem KB.odep{f:Fm}{n2 b:Nat}{r:Int}(h:KB w0 w (f.st ⟨g2,E2,W2,n2,b⟩) g E W B)(a:((W2.length:Nat):Int)=r):Calls Tryz.prog 143 #[.pointer (some ⟨g2,0,none⟩)] w fun e w'=>e=.returned (.int .i64 r)/\w'=w:=by
 obtain⟨n,N,h,d,c⟩:=h.ex;exact kdp1 (h.swap rfl) a
def jln(w:World)(g:Nat):Nat:=match w.cell? ⟨g,1,none⟩ with
 | some (.slice _ n _)=>n
 | _=>0
theorem SA.jln(h:SA w K D g E W n N):jln w g=W.length:=by
 obtain⟨F,V,m,Q,j,T,f,hb,_,_,e,d,_⟩:=h.ex;have a:=d.len;simp at a;have hc:=hb.cell (i:=1) rfl;unfold Kv.jln;rw[hc,<- a];rcases e.row with⟨_,rfl,rfl⟩ | ⟨b,c,_,rfl,_⟩<;>rfl
theorem K2.jln{f:Fm}(h:K2 w0 w f g E W g2 E2 W2 B):jln w g=W.length:=by
 obtain⟨n2,N2,h,_⟩:=h.ex;obtain⟨n,N,h,_⟩:=h.ex;obtain⟨K,h⟩:=h.ex;exact h.sa.jln
end
end Kv
end
section
namespace Kv
open Go.RowKit Go.Lib Pg
section
variable {v:Value}{x l:List Int}{E:aE}{j:Nat}{w:World}{W:List aE}
theorem jV{X Y:aE}{k v:List Int}(h:¬ k=x):look (X ++ (k,v) :: Y) x=look (X ++ Y) x:=by
 unfold look;rw[List.find?_append,List.find?_append,List.find?_cons];simp[h]
theorem jB(h:dP E)(k v x:List Int):look (put E k v) x=if k=x then some v else look E x:=by
 obtain⟨X,Y,c,⟨rfl,_⟩ | ⟨y,rfl,_⟩⟩:=h.cut k
 ·rw[c.Bg];split
  ·rename_i e; subst e; exact c.qL
  ·rename_i e; exact jV e
 ·rw[c.AN];split
  ·rename_i e; subst e; exact c.qL
  ·rename_i e; rw[jV e,jV e]
theorem p8(h:dP E)(k x:List Int):look (rem E k) x=if k=x then none else look E x:=by
 obtain⟨X,Y,c,⟨rfl,_⟩ | ⟨y,rfl,_⟩⟩:=h.cut k
 ·rw[c.Ep];split
  ·rename_i e; subst e; exact c.vK
  ·rfl
 ·rw[c.He];split
  ·rename_i e; subst e; exact c.vK
  ·rename_i e; rw[jV e]
def qp(s:Ste):Prop:=¬ s.what.tmod 2=0\/(1<=s.kl.length/\s.kl.length<=64/\s.vl.length<=4096)
instance (s:Ste):Decidable (qp s):=by unfold qp; infer_instance
theorem vO(k v:List Int):fL k v=0<->(1<=k.length/\k.length<=64/\v.length<=4096):=by
 unfold fL;split
 ·constructor
  ·intro h; simp at h
  ·intro h; omega
 ·split
  ·constructor
   ·intro h; simp at h
   ·intro h; omega
  ·constructor
   ·intro _; omega
   ·intro _; rfl
def run(ss : List Ste) : Nat → aE
  | 0 => []
  | j + 1 => match ss[j]? with
    | some s => AG (run ss j) s.what s.kl s.vl
    | none => run ss j
def jc(ss : List Ste)(x : List Int) : Nat → Int
  | 0 => -1
  | j + 1 => match ss[j]? with
    | some s => if s.kl = x ∧ qp s then (j : Int) else jc ss x j
    | none => jc ss x j
theorem run_at{ss:List Ste}{s:Ste}(h:ss[j]? = some s):run ss (j + 1)=AG (run ss j) s.what s.kl s.vl:=by
 simp only[run,h]
theorem Cz{ss:List Ste}{s:Ste}(h:ss[j]? = some s)(h1:s.kl=x)(h2:qp s):jc ss x (j + 1)=(j:Int):=by
 simp only[jc,h];rw[if_pos ⟨h1,h2⟩]
theorem ER{ss:List Ste}{s:Ste}(h:ss[j]? = some s)(h1:¬ (s.kl=x/\qp s)):jc ss x (j + 1)=jc ss x j:=by
 simp only[jc,h];rw[if_neg h1]
theorem AZ(h:dP E)(what:Int)(k v:List Int):dP (AG E what k v):=by
 unfold AG GI;split
 ·split
  ·exact h.put k v
  ·exact h
 ·exact h.rem k
theorem ue(ss:List Ste):∀ j,dP (run ss j)
 | 0=>List.Pairwise.nil
 | j + 1=>by
  have ih:=ue ss j;simp only[run];split
  ·exact AZ ih _ _ _
  ·exact ih
theorem Aj(h:dP E)(s:Ste)(x:List Int):look (AG E s.what s.kl s.vl) x=if s.kl=x/\qp s then (if s.what.tmod 2=0 then some s.vl else none) else look E x:=by
 unfold AG;by_cases hw:s.what.tmod 2=0
 ·rw[if_pos hw];unfold GI;by_cases b:fL s.kl s.vl=0
  ·have g:qp s:=.inr ((vO _ _).1 b);rw[if_pos b,jB h];by_cases a:s.kl=x
   ·rw[if_pos a,if_pos ⟨a,g⟩,if_pos hw]
   ·rw[if_neg a,if_neg (fun h=>a h.1)]
  ·have g:¬ qp s:=fun g=>g.elim (fun h=>h hw) (fun h=>b ((vO _ _).2 h))
   rw[if_neg b,if_neg (fun h=>g h.2)]
 ·rw[if_neg hw,p8 h]
  have g:qp s:=.inl hw;by_cases a:s.kl=x
  ·rw[if_pos a,if_pos ⟨a,g⟩,if_neg hw]
  ·rw[if_neg a,if_neg (fun h=>a h.1)]
theorem Ct(c:List Ste)(x:List Int):∀ j,(jc c x j = -1/\look (run c j) x=none)\/∃ (t:Nat) (s:Ste),t < j/\c[t]? = some s/\jc c x j=(t:Int)/\look (run c j) x=(if s.what.tmod 2=0 then some s.vl else none)
 | 0=>.inl ⟨rfl,rfl⟩
 | j + 1=>by
  have ih:=Ct c x j
  cases h:c[j]? with
  | none =>
   have e1:run c (j + 1)=run c j:=by simp only[run,h]
   have e2:jc c x (j + 1)=jc c x j:=by simp only[jc,h]
   rw[e1,e2];exact ih.imp id (fun⟨t,s,a,b⟩=>⟨t,s,by omega,b⟩)
  | some s =>
   rw[run_at h,Aj (ue c j)];by_cases hc:s.kl=x/\qp s
   ·rw[if_pos hc];exact .inr ⟨j,s,by omega,h,Cz h hc.1 hc.2,rfl⟩
   ·rw[if_neg hc,ER h hc];exact ih.imp id (fun⟨t,s,a,b⟩=>⟨t,s,by omega,b⟩)
theorem o7.ata{b o n:Nat}{ss:List Ste}(h:o7 w (some ⟨b,o,none⟩) n ss){i:Nat}{s:Ste}(hi:ss[i]? = some s):Ao w b (o + i * 4) s/\AU w s:=by
 obtain⟨b',o',e,h1,h2⟩:=h.get i s hi
 cases e;exact⟨h1,h2⟩
theorem KB.drop{w0:World}{f:Fm}{g:Nat}{B:Nat}(h:KB w0 w (f.by v l) g E W B):KB w0 w f g E W B:=by
 obtain⟨n,N,h,h3,h4⟩:=h.ex;exact⟨n,N,h.drop,h3,h4⟩
end
end Kv
end
end Go.Proofs.YthfepflplbahkaaGreatDoor
