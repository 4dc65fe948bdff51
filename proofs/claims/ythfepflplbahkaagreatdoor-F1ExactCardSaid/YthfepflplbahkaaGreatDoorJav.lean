/- Several texts, joined: FoH. -/
import Derived.Test.YthfepflplbahkaaGreatDoorJas
import Derived.Test.YthfepflplbahkaaGreatDoorJau
set_option maxRecDepth 100000
set_option maxHeartbeats 8000000
namespace Go.Proofs.YthfepflplbahkaaGreatDoor
namespace Kv
open Go.RowKit Go.Lib Pg
attribute [local go_sem] Oper.semAt_some
theorem sgetG {w:World} {K D:Nat->Prop} {g n N:Nat} {E:aI} {W:List aI} {kv:Value} {k:List Int} (h:SA w K D g E W n N) (hk:BK w K kv k) (hn:n<=4000000000000000000) (hN:N<=100000000) :
  Calls Tryz.prog 127 #[.pointer (some ⟨g,0,none⟩),kv] w fun e w'=>∃ v,e=.returned (.tuple #[v,.bool (look E k).isSome])/\OB w' (w.heap.size <= ·) v ((look E k).getD [])/\SA w' K D g E W (n + 1) N/\Chg (· = g) w w':=by
 obtain⟨F,V,m,Q,jv,T,oj,hX,rfl,hB⟩:=h.open;obtain⟨ao,c,rfl⟩:=hk.shape;have u:=fY hX hn;have HX:=aB hX;have HB:=aB hB;have HK:=aB hk;clear hX hB hk h;obtain⟨kn,hkn⟩:∃ kn,Hid (k.length=kn):=⟨_,rfl⟩
 rw[hkn.out] at HK ⊢;have ug:=fun w' (X:SX w' K D F V g m Q jv T oj (n + 1) N) (hk:By w' (.slice ao kn c) k)=>jM X hk hN
 obtain⟨r,hr⟩:∃ r,(look Q.flatten k).isSome=r:=⟨_,rfl⟩
 obtain⟨L,hL⟩:∃ L,(look Q.flatten k).getD []=L:=⟨_,rfl⟩
 rw[hr,hL] at ug ⊢;clear hr hL;go_enter Tryz.func127,Tryz.ntmps127;go_wp2_with first
  | (go_at_call 95; go_must (refine u.mono ?_); rintro e w1 ⟨rfl,X1,C1⟩; have c0:=X1.blk.cell (i:=0) rfl)
  | (go_at_call 170; go_must (refine(ug _ X1 (HK.out _ (HX.out.kg C1))).mono ?_); rintro e w2 ⟨v,rfl,O,B⟩; obtain⟨a1,c1,rfl⟩:∃ a1 c1,v=.slice a1 L.length c1:=(by obtain⟨a1,c1,e,_⟩:=O.by.ex; exact⟨a1,c1,e⟩); generalize L.length=ln at *)
 go_ret2;exact⟨_,rfl,O.mono (fun b _ h=>by have:=C1.size; have h':w1.heap.size<=b:=h; show w.heap.size<=b; omega),(X1.keep B).shut rfl HB.out,fm C1 (Chg.of B)⟩
end Kv
namespace Fo
open Go.RowKit Go.Lib Pg Lim Gl Kv Bk Pw
attribute [local go_sem] Oper.semAt_some
set_option linter.unusedVariables false
set_option linter.unusedSimpArgs false
structure Rg (X:Nat->Prop) (B:Nat) (w0 w:World) (K:Nat->Prop) (g:Nat) (E:aI) (W:List aI) (n N:Nat):Prop where
 sx:Sx B w K g E W n N
 cg:Chg X w0 w
 xg:X g
section
variable {X:Nat->Prop} {B g n N n' N' x:Nat} {w0 w w':World} {K:Nat->Prop} {E:aI} {W:List aI}
section
variable {cs:List Value}
theorem Rg.keep(h:Rg X B w0 w K g E W n N)(b:Below w.heap.size w w'):Rg X B w0 w' K g E W n N:=⟨h.sx.keep b,h.cg.trans (Chg.of (F:=fun _=>False) b) (fun _ _ h=>h.elim),h.xg⟩
theorem Rg.drew(h:Rg X B w0 w K g E W n N):Rg X B w0 w.drew K g E W n N:=h.keep (Below.refl _ _).drew
theorem Rg.size(h:Rg X B w0 w K g E W n N):w0.heap.size<=w.heap.size:=h.cg.size
theorem Rg.lt(h:Rg X B w0 w K g E W n N){b:Nat}(hb:K b):b < w.heap.size:=h.sx.sa.lt hb
theorem Rg.new(h:Rg X B w0 w K g E W n N)(hx:w.heap.size<=x):¬ K x:=fun hk=>by have:=h.lt hk; omega
theorem Rg.cell{t:TypeId}(h:Rg X B w0 w K g E W n N)(hX:Blk w x cs t)(C:Chg (· = x) w w')(hx:w0.heap.size<=x\/X x)(hk:¬ K x)(ht:t≠5):Rg X B w0 w' K g E W n N:=by
 refine⟨⟨h.sx.sa.chg C (fun b e hb=>hk ((show b=x from e)▸hb)) (fun b e cs' k => ?_),Nat.le_trans h.sx.lo C.size,h.sx.kb⟩,h.cg.trans C (fun b hb e=>by have e':b=x:=e; subst e'; exact hx.elim (fun h=>by omega) id),h.xg⟩
 have e':b=x:=e;subst e';exact ht (hX.eq k).2
theorem Rg.op(h:Rg X B w0 w K g E W n N)(S:Sx B w' K g E W n' N')(C:Chg (· = g) w w'):Rg X B w0 w' K g E W n' N':=⟨S,h.cg.trans C (fun b _ e=>(show b=g from e)▸h.xg),h.xg⟩
theorem Rg.top(h:Rg X B w0 w K g E W n N):K g:=h.sx.sa.top
theorem rg_of(h:Sx B w K g E W n N)(hX:X g):Rg X B w w K g E W n N:=⟨h,Chg.refl _ _,hX⟩
end
end
section
variable {g B n N:Nat}{w:World}{K:Nat->Prop}{E:aI}{W:List aI}{kv:Value}{k:List Int}{id p:Int}{aR aS aF:Option Addr}
theorem ne4{b s:Nat}(h:b < s)(hg:s<=g):g≠b:=by omega
theorem xgetG(h:Sx B w K g E W n N)(hk:ByU w kv k)(hn:n<=4000000000000000000)(hN:N<=100000000) :
  Calls Tryz.prog 127 #[pg g,kv] w fun e w'=>∃ v,e=.returned (.tuple #[v,.bool (Kv.look E k).isSome])/\ByU w' v ((Kv.look E k).getD [])/\Sx B w' K g E W (n + 1) N/\Chg (· = g) w w':=by
 refine(Kv.sgetG h.sa (h.bk hk) hn hN).mono ?_
 rintro e w' ⟨v,rfl,O,S,C⟩;exact⟨v,rfl,ByU.of O,⟨S,Nat.le_trans h.lo C.size,h.kb⟩,C⟩
structure FndG(B:Nat)(w:World)(K:Nat->Prop)(g:Nat)(E:aI)(W:List aI)(n N:Nat)(V:Int)(mk:Value->Value)(e:Ending)(w':World):Prop where
 ex:∃ a0 n0 c0,e=.returned (mk (.slice a0 n0 c0))/\∃ z0,Sx B w' K g E W n N/\Chg (· = g) w w'/\Nq w' K z0 a0 n0 c0 V/\n0<=510/\(n0=0\/w.heap.size<=z0)
theorem findG(h:Sx B w K g E W n N)(hid:0<=id/\id < 18446744073709551616)(hn:n + 10<=4000000000000000000)(hN:N + 10<=100000000):Calls Tryz.prog 79 #[pg g,.int .u64 id,.int .u64 p] w (FndG B w K g E W (n + 1) N (hX (got E (Ky.mk 7 id p)) 0) (hmk (hX (got E (Ky.mk 7 id p)) 1) (Kv.look E (Ky.mk 7 id p)).isSome)):=by
 have A:=rg_of (X:=(· = g)) h rfl;refine aT (n:=27) Tryz.func79 rfl (by kernel_rfl) (by kernel_rfl) ?_
 refine ax (aA (ta 6 [.slice none 0 0,.int .u64 0] 116 (pg) ?_));intro v1 g2 Xg2 hg2 B;have zg2:=Or.inl (b:=(fun b=>b=g) g2) (Nat.le_trans A.size hg2);have nXg2:=A.new hg2;replace A:=A.keep B;clear B;refine t 7 (.bool false) ?_
 refine ay (ai (ax (aA (t 13 (pg g) ?_))));refine t 14 (.int .u64 id) ?_
 refine t 15 (.int .u64 p) ?_
 refine tc 16 65 #[.int .i64 7,.int .u64 id,.int .u64 p] (vX hid (qu id p)) ?_
 rintro _ v5 ⟨kv4,rfl,U3,B⟩;refine⟨_,rfl,?_⟩;replace A:=A.keep B;replace Xg2:=Xg2.keep B;clear B;refine tc 17 127 #[pg g,kv4] (xgetG A.sx U3 (by omega) (by omega)) ?_
 rintro _ v8 ⟨gv6,rfl,U7,S,C⟩;refine⟨_,rfl,?_⟩;have hC:=C.mono (fun b _ (e:b=g)=>e▸A.top);replace Xg2:=Xg2.chg C (fun e=>nXg2 (e▸A.top));replace U3:=U3.chg hC A.sx.sa.kind;replace A:=A.op S C;clear S hC C;refine t 12 (.tuple #[gv6,.bool (Kv.look E (Ky.mk 7 id p)).isSome]) ?_
 refine t 18 (gv6) ?_
 refine t 19 (.bool (Kv.look E (Ky.mk 7 id p)).isSome) ?_
 refine t 8 (gv6) ?_
 refine t 9 (.bool (Kv.look E (Ky.mk 7 id p)).isSome) ?_
 refine ay (ai (bB [(6,pg g2),(7,.bool false),(8,gv6),(9,.bool (Kv.look E (Ky.mk 7 id p)).isSome)] (by kernel_rfl) ?_));refine ax (aA (t 21 (gv6) ?_));refine tc 22 128 #[gv6] (u4 U7 (wZ A.sx _)) ?_
 rintro _ v10 ⟨ar9,nr9,cr9,rfl,⟨NW,mr9⟩,B⟩;refine⟨_,rfl,?_⟩;obtain⟨zr9,hr9,Qr9⟩:=uW NW (fun b hb=>A.lt hb);clear NW;have eQr9g2:=ne2 hr9 Xg2.lt;have fQr9:=ne3 hr9 A.size;clear hr9;replace A:=A.keep B;replace Xg2:=Xg2.keep B;replace U3:=eV U3 B;replace U7:=eV U7 B;clear B;clear U7;refine t 20 (.tuple #[.agg #[.slice ar9 nr9 cr9,.int .u64 (hX (got E (Ky.mk 7 id p)) 1)],.int .i64 (Rc.iO (Rc.de (got E (Ky.mk 7 id p))))]) ?_
 refine t 23 (.agg #[.slice ar9 nr9 cr9,.int .u64 (hX (got E (Ky.mk 7 id p)) 1)]) ?_
 refine t 24 (.int .i64 (Rc.iO (Rc.de (got E (Ky.mk 7 id p))))) ?_
 have lXg2:=Xg2.lt;refine ta 10 [.slice none 0 0,.int .u64 0] 116 (pg) ?_
 intro v11 g12 Xg12 hg12 B;have zg12:=Or.inl (b:=(fun b=>b=g) g12) (Nat.le_trans A.size hg12);have nXg12:=A.new hg12;have eQr9g12:=ne1 Qr9.lt hg12;have dg12_g2:=ne4 Xg2.lt hg12;replace A:=A.keep B;replace Xg2:=Xg2.keep B;replace U3:=eV U3 B;replace Qr9:=Qr9.keep B;clear B;refine ts Xg12 0 (.agg #[.slice ar9 nr9 cr9,.int .u64 (hX (got E (Ky.mk 7 id p)) 1)]) [.slice ar9 nr9 cr9,.int .u64 (hX (got E (Ky.mk 7 id p)) 1)] [.slice ar9 nr9 cr9,.int .u64 (hX (got E (Ky.mk 7 id p)) 1)] ?_
 intro v13 Y C;replace A:=Rg.cell A Xg12 C zg12 nXg12 (by decide);replace Xg2:=Xg2.chg C dg12_g2.symm;replace U3:=jF U3 Xg12 C (by decide);replace Qr9:=Qr9.cell C eQr9g12;clear C Xg12;have Xg12:=Y;clear Y;refine t 11 (.int .i64 (Rc.iO (Rc.de (got E (Ky.mk 7 id p))))) ?_
 refine ay (ai (ax (aA (tlr 25 [.slice ar9 nr9 cr9,.int .u64 (hX (got E (Ky.mk 7 id p)) 1)] Xg12 0 ?_))));refine t 26 (.bool (Kv.look E (Ky.mk 7 id p)).isSome) ?_
 refine ts Xg2 0 (.agg #[.slice ar9 nr9 cr9,.int .u64 (hX (got E (Ky.mk 7 id p)) 1)]) [.slice ar9 nr9 cr9,.int .u64 (hX (got E (Ky.mk 7 id p)) 1)] [.slice ar9 nr9 cr9,.int .u64 (hX (got E (Ky.mk 7 id p)) 1)] ?_
 intro v14 Y C;replace A:=Rg.cell A Xg2 C zg2 nXg2 (by decide);replace U3:=jF U3 Xg2 C (by decide);replace Qr9:=Qr9.cell C eQr9g2;replace Xg12:=Xg12.chg C dg12_g2;clear C Xg2;have Xg2:=Y;clear Y;refine t 7 (.bool (Kv.look E (Ky.mk 7 id p)).isSome) ?_
 refine ay (ai (aZ (bh (.tuple #[.agg #[.slice ar9 nr9 cr9,.int .u64 (hX (got E (Ky.mk 7 id p)) 1)],.bool (Kv.look E (Ky.mk 7 id p)).isSome]) (qY 6 7 (T:=116) (by kernel_rfl) (by kernel_rfl) (by kernel_rfl) (lr Xg2 0)) ?_)));exact⟨_,_,_,rfl,_,A.sx,A.cg,Qr9,mr9,fQr9⟩
theorem ku(h:Sx B w K g E W n N)(hid:0<=id/\id < 18446744073709551616)(hn:n + 10<=4000000000000000000)(hN:N + 10<=100000000):Calls Tryz.prog 49 #[pg g,.int .u64 id,.int .u64 p] w (FndG B w K g E W (n + 1) N (hX (got E (Ky.mk 7 id p)) 0) rmk):=by
 have A:=rg_of (X:=(· = g)) h rfl;refine aT (n:=18) Tryz.func49 rfl (by kernel_rfl) (by kernel_rfl) ?_
 refine ax (aA (ta 6 [.slice none 0 0] 32 (pg) ?_));intro v1 g2 Xg2 hg2 B;have zg2:=Or.inl (b:=(fun b=>b=g) g2) (Nat.le_trans A.size hg2);have nXg2:=A.new hg2;replace A:=A.keep B;clear B;refine ay (ai (ax (aA (t 10 (pg g) ?_))));refine t 11 (.int .u64 id) ?_
 refine t 12 (.int .u64 p) ?_
 refine tc 13 79 #[pg g,.int .u64 id,.int .u64 p] (findG A.sx hid (by omega) (by omega)) ?_
 rintro _ v4 ⟨ar3,nr3,cr3,rfl,zr3,S,C,Qr3,mr3,hr3⟩;refine⟨_,rfl,?_⟩;have eQr3g2:=ne2 hr3 Xg2.lt;have fQr3:=ne3 hr3 A.size;clear hr3;have hC:=C.mono (fun b _ (e:b=g)=>e▸A.top);replace Xg2:=Xg2.chg C (fun e=>nXg2 (e▸A.top));replace A:=A.op S C;clear S hC C;refine t 9 (.tuple #[.agg #[.slice ar3 nr3 cr3,.int .u64 (hX (got E (Ky.mk 7 id p)) 1)],.bool (Kv.look E (Ky.mk 7 id p)).isSome]) ?_
 refine t 14 (.agg #[.slice ar3 nr3 cr3,.int .u64 (hX (got E (Ky.mk 7 id p)) 1)]) ?_
 refine t 15 (.bool (Kv.look E (Ky.mk 7 id p)).isSome) ?_
 have lXg2:=Xg2.lt;refine ta 7 [.slice none 0 0,.int .u64 0] 116 (pg) ?_
 intro v5 g6 Xg6 hg6 B;have zg6:=Or.inl (b:=(fun b=>b=g) g6) (Nat.le_trans A.size hg6);have nXg6:=A.new hg6;have eQr3g6:=ne1 Qr3.lt hg6;have dg6_g2:=ne4 Xg2.lt hg6;replace A:=A.keep B;replace Xg2:=Xg2.keep B;replace Qr3:=Qr3.keep B;clear B;refine ts Xg6 0 (.agg #[.slice ar3 nr3 cr3,.int .u64 (hX (got E (Ky.mk 7 id p)) 1)]) [.slice ar3 nr3 cr3,.int .u64 (hX (got E (Ky.mk 7 id p)) 1)] [.slice ar3 nr3 cr3,.int .u64 (hX (got E (Ky.mk 7 id p)) 1)] ?_
 intro v7 Y C;replace A:=Rg.cell A Xg6 C zg6 nXg6 (by decide);replace Xg2:=Xg2.chg C dg6_g2.symm;replace Qr3:=Qr3.cell C eQr3g6;clear C Xg6;have Xg6:=Y;clear Y;refine t 8 (.bool (Kv.look E (Ky.mk 7 id p)).isSome) ?_
 refine ay (ai (bB [(6,pg g2),(7,pg g6)] (by kernel_rfl) ?_));refine ax (aA (t 16 (pg g6) ?_));refine tlr 17 [.slice ar3 nr3 cr3] Xg6 0 ?_
 refine ts Xg2 0 (.agg #[.slice ar3 nr3 cr3]) [.slice ar3 nr3 cr3] [.slice ar3 nr3 cr3] ?_
 intro v8 Y C;replace A:=Rg.cell A Xg2 C zg2 nXg2 (by decide);replace Qr3:=Qr3.cell C eQr3g2;replace Xg6:=Xg6.chg C dg6_g2;clear C Xg2;have Xg2:=Y;clear Y;refine ay (ai (aZ (bh (.agg #[.slice ar3 nr3 cr3]) (rsc 6 (T:=32) (by kernel_rfl) (by kernel_rfl) (lr Xg2 0)) ?_)));exact⟨_,_,_,rfl,_,A.sx,A.cg,Qr3,mr3,fQr3⟩
structure EaE(B:Nat)(w:World)(K:Nat->Prop)(g br bf:Nat)(E:aI)(W:List aI)(n N:Nat)(V F:Int)(m:Nat)(e:Ending)(w':World):Prop where
 ex:∃ a1 n1 c1 z1 a2 n2 c2 z2,e=.returned (.tuple #[])/\Sx B w' K g E W n N/\Chg (fun b=>b=g\/b=br\/b=bf) w w'/\Blk w' br [.slice a1 n1 c1] 32/\Nq w' K z1 a1 n1 c1 V/\n1<=m/\(n1=0\/w.heap.size<=z1)/\Blk w' bf [.slice a2 n2 c2] 32/\Nq w' K z2 a2 n2 c2 F/\n2<=510/\(n2=0\/w.heap.size<=z2)
theorem qp{bs bi br bk bf:Nat}{nR cR zR:Nat}{xR:Int}{nS cS zS:Nat}{xS:Int}{nF cF zF:Nat}{xF:Int}(h:Sx B w K g E W n N)(hid:0<=id/\id < 18446744073709551616)(QR:Nq w K zR aR nR cR xR)(mR:nR<=10000000000)(QS:Nq w K zS aS nS cS xS)(mS:nS<=10000000000)(QF:Nq w K zF aF nF cF xF)(mF:nF<=10000000000)(Xs:Blk w bs [pg g] 37)(Xi:Blk w bi [.int .u64 id] 22)(Xr:Blk w br [.slice aR nR cR] 32)(Xk:Blk w bk [.slice aS nS cS] 32)(Xf:Blk w bf [.slice aF nF cF] 32)(nXs:¬ K bs)(nXi:¬ K bi)(nXr:¬ K br)(nXk:¬ K bk)(nXf:¬ K bf)(dbr_bk:br≠bk)(dbr_bf:br≠bf)(dbk_bf:bk≠bf)(dbs_br:bs≠br)(dbs_bf:bs≠bf)(dbi_br:bi≠br)(dbi_bf:bi≠bf)(eQRbr:nR=0\/zR≠br)(eQRbf:nR=0\/zR≠bf)(eQSbr:nS=0\/zS≠br)(eQSbf:nS=0\/zS≠bf)(eQFbr:nF=0\/zF≠br)(eQFbf:nF=0\/zF≠bf)(hn:n + 10<=4000000000000000000)(hN:N + 10<=100000000):Calls Tryz.prog 50 #[.int .u64 p,pg bs,pg bi,pg br,pg bk,pg bf] w (EaE B w K g br bf E W (n + 1) N (xR + xS * jd (hX (got E (Ky.mk 7 id p)) 0) xF / U36) (hX (got E (Ky.mk 7 id p)) 0) (nR + nS + 600)):=by
 have zbr:=Or.inr (a:=w.heap.size<=br) (show br=g\/br=br\/br=bf from .inr (.inl rfl));have zbf:=Or.inr (a:=w.heap.size<=bf) (show bf=g\/bf=br\/bf=bf from .inr (.inr rfl));have A:=rg_of (X:=fun b=>b=g\/b=br\/b=bf) h (.inl rfl);refine aT (n:=20) Tryz.func50 rfl (by kernel_rfl) (by kernel_rfl) ?_
 refine ax (aA (tl 8 (pg g) Xs 0 ?_));refine tl 9 (.int .u64 id) Xi 0 ?_
 refine t 10 (.int .u64 p) ?_
 refine tc 11 49 #[pg g,.int .u64 id,.int .u64 p] (ku A.sx hid (by omega) (by omega)) ?_
 rintro _ v2 ⟨ar1,nr1,cr1,rfl,zr1,S,C,Qr1,mr1,hr1⟩;refine⟨_,rfl,?_⟩;have eQr1bs:=ne2 hr1 Xs.lt;have eQr1bi:=ne2 hr1 Xi.lt;have eQr1br:=ne2 hr1 Xr.lt;have eQr1bk:=ne2 hr1 Xk.lt;have eQr1bf:=ne2 hr1 Xf.lt;have fQr1:=ne3 hr1 A.size;clear hr1;have hC:=C.mono (fun b _ (e:b=g)=>e▸A.top);replace QR:=QR.op (fun _ h=>.inl h) hC;replace QS:=QS.op (fun _ h=>.inl h) hC;replace QF:=QF.op (fun _ h=>.inl h) hC;replace Xs:=Xs.chg C (fun e=>nXs (e▸A.top));replace Xi:=Xi.chg C (fun e=>nXi (e▸A.top));replace Xr:=Xr.chg C (fun e=>nXr (e▸A.top));replace Xk:=Xk.chg C (fun e=>nXk (e▸A.top));replace Xf:=Xf.chg C (fun e=>nXf (e▸A.top));replace A:=A.op S C;clear S hC C;have lXs:=Xs.lt;have lXi:=Xi.lt;have lXr:=Xr.lt;have lXk:=Xk.lt;have lXf:=Xf.lt;refine ta 7 [.slice none 0 0] 32 (pg) ?_
 intro v3 g4 Xg4 hg4 B;have zg4:=Or.inl (b:=(fun b=>b=g\/b=br\/b=bf) g4) (Nat.le_trans A.size hg4);have nXg4:=A.new hg4;have eQRg4:=ne1 QR.lt hg4;have eQSg4:=ne1 QS.lt hg4;have eQFg4:=ne1 QF.lt hg4;have eQr1g4:=ne1 Qr1.lt hg4;have dg4_bs:=ne4 Xs.lt hg4;have dg4_bi:=ne4 Xi.lt hg4;have dg4_br:=ne4 Xr.lt hg4;have dg4_bk:=ne4 Xk.lt hg4;have dg4_bf:=ne4 Xf.lt hg4;replace A:=A.keep B;replace QR:=QR.keep B;replace QS:=QS.keep B;replace QF:=QF.keep B;replace Xs:=Xs.keep B;replace Xi:=Xi.keep B;replace Xr:=Xr.keep B;replace Xk:=Xk.keep B;replace Xf:=Xf.keep B;replace Qr1:=Qr1.keep B;clear B;refine ts Xg4 0 (.agg #[.slice ar1 nr1 cr1]) [.slice ar1 nr1 cr1] [.slice ar1 nr1 cr1] ?_
 intro v5 Y C;replace A:=Rg.cell A Xg4 C zg4 nXg4 (by decide);replace QR:=QR.cell C eQRg4;replace QS:=QS.cell C eQSg4;replace QF:=QF.cell C eQFg4;replace Xs:=Xs.chg C dg4_bs.symm;replace Xi:=Xi.chg C dg4_bi.symm;replace Xr:=Xr.chg C dg4_br.symm;replace Xk:=Xk.chg C dg4_bk.symm;replace Xf:=Xf.chg C dg4_bf.symm;replace Qr1:=Qr1.cell C eQr1g4;clear C Xg4;have Xg4:=Y;clear Y;refine ay (ai (ax ?_));replace A:=A.drew;replace QR:=QR.drew;replace QS:=QS.drew;replace QF:=QF.drew;replace Xs:=Xs.drew;replace Xi:=Xi.drew;replace Xr:=Xr.drew;replace Xk:=Xk.drew;replace Xf:=Xf.drew;replace Qr1:=Qr1.drew;replace Xg4:=Xg4.drew;refine cU (fun w'=>Blk w' br [.slice aR nR cR] 32/\Blk w' bk [.slice aS nS cS] 32/\Blk w' g4 [.slice ar1 nr1 cr1] 32/\Blk w' bf [.slice aF nF cF] 32) (fun i=>decide (7<=i)) ⟨Xr,Xk,Xg4,Xf⟩ ?_
 refine zlr 0 12 [.slice aR nR cR] (fun _ h=>h.1) 0 ?_
 refine zlr 1 13 [.slice aS nS cS] (fun _ h=>h.2.1) 0 ?_
 refine zlr 2 14 [.slice ar1 nr1 cr1] (fun _ h=>h.2.2.1) 0 ?_
 refine zlr 3 15 [.slice aF nF cF] (fun _ h=>h.2.2.2) 0 ?_
 refine zc 4 16 52 #[.agg #[.slice ar1 nr1 cr1],.agg #[.slice aF nF cF]] (qK Qr1.nat (by omega) QF.nat (by omega)) ?_
 rintro _ v7 ⟨aq6,nq6,cq6,zq6,rfl,Mq6,hq6,mq6,B⟩;have eQq6bs:=ne2 hq6 Xs.lt;have eQq6bi:=ne2 hq6 Xi.lt;have eQq6br:=ne2 hq6 Xr.lt;have eQq6bk:=ne2 hq6 Xk.lt;have eQq6bf:=ne2 hq6 Xf.lt;have eQq6g4:=ne2 hq6 Xg4.lt;have fQq6:=ne3 hq6 A.size;have Qq6:=bZ A.sx Mq6 hq6;clear Mq6 hq6;replace A:=A.keep B;replace QR:=QR.keep B;replace QS:=QS.keep B;replace QF:=QF.keep B;replace Xs:=Xs.keep B;replace Xi:=Xi.keep B;replace Xr:=Xr.keep B;replace Xk:=Xk.keep B;replace Xf:=Xf.keep B;replace Qr1:=Qr1.keep B;replace Xg4:=Xg4.keep B;clear B;refine⟨_,rfl,⟨Xr,Xk,Xg4,Xf⟩,?_⟩;refine zc 5 17 51 #[.agg #[.slice aS nS cS],.agg #[.slice aq6 nq6 cq6]] (eMul QS.nat (by omega) Qq6.nat (by omega)) ?_
 rintro _ v9 ⟨aq8,nq8,cq8,zq8,rfl,Mq8,hq8,mq8,B⟩;have eQq8bs:=ne2 hq8 Xs.lt;have eQq8bi:=ne2 hq8 Xi.lt;have eQq8br:=ne2 hq8 Xr.lt;have eQq8bk:=ne2 hq8 Xk.lt;have eQq8bf:=ne2 hq8 Xf.lt;have eQq8g4:=ne2 hq8 Xg4.lt;have fQq8:=ne3 hq8 A.size;have Qq8:=bZ A.sx Mq8 hq8;clear Mq8 hq8;replace A:=A.keep B;replace QR:=QR.keep B;replace QS:=QS.keep B;replace QF:=QF.keep B;replace Xs:=Xs.keep B;replace Xi:=Xi.keep B;replace Xr:=Xr.keep B;replace Xk:=Xk.keep B;replace Xf:=Xf.keep B;replace Qr1:=Qr1.keep B;replace Xg4:=Xg4.keep B;replace Qq6:=Qq6.keep B;clear B;refine⟨_,rfl,⟨Xr,Xk,Xg4,Xf⟩,?_⟩;refine zc 6 18 27 #[.agg #[.slice aR nR cR],.agg #[.slice aq8 nq8 cq8]] (eAdd QR.nat (by omega) Qq8.nat (by omega)) ?_
 rintro _ v11 ⟨aq10,nq10,cq10,zq10,rfl,Mq10,hq10,mq10,B⟩;have eQq10bs:=ne2 hq10 Xs.lt;have eQq10bi:=ne2 hq10 Xi.lt;have eQq10br:=ne2 hq10 Xr.lt;have eQq10bk:=ne2 hq10 Xk.lt;have eQq10bf:=ne2 hq10 Xf.lt;have eQq10g4:=ne2 hq10 Xg4.lt;have fQq10:=ne3 hq10 A.size;have Qq10:=bZ A.sx Mq10 hq10;clear Mq10 hq10;replace A:=A.keep B;replace QR:=QR.keep B;replace QS:=QS.keep B;replace QF:=QF.keep B;replace Xs:=Xs.keep B;replace Xi:=Xi.keep B;replace Xr:=Xr.keep B;replace Xk:=Xk.keep B;replace Xf:=Xf.keep B;replace Qr1:=Qr1.keep B;replace Xg4:=Xg4.keep B;replace Qq6:=Qq6.keep B;replace Qq8:=Qq8.keep B;clear B;refine⟨_,rfl,⟨Xr,Xk,Xg4,Xf⟩,?_⟩;refine qa ?_
 refine ys 7 Xr 0 (.agg #[.slice aq10 nq10 cq10]) [.slice aq10 nq10 cq10] [.slice aq10 nq10 cq10] ?_
 intro v12 Y C;replace A:=Rg.cell A Xr C zbr nXr (by decide);replace QR:=QR.cell C eQRbr;replace QS:=QS.cell C eQSbr;replace QF:=QF.cell C eQFbr;replace Xs:=Xs.chg C dbs_br;replace Xi:=Xi.chg C dbi_br;replace Xk:=Xk.chg C dbr_bk.symm;replace Xf:=Xf.chg C dbr_bf.symm;replace Qr1:=Qr1.cell C eQr1br;replace Xg4:=Xg4.chg C dg4_br;replace Qq6:=Qq6.cell C eQq6br;replace Qq8:=Qq8.cell C eQq8br;replace Qq10:=Qq10.cell C eQq10br;clear C Xr;have Xr:=Y;clear Y;refine pC ?_
 refine ai (bB [(5,pg bf),(7,pg g4)] (by kernel_rfl) ?_);refine aA (tlr 19 [.slice ar1 nr1 cr1] Xg4 0 ?_);refine ts Xf 0 (.agg #[.slice ar1 nr1 cr1]) [.slice ar1 nr1 cr1] [.slice ar1 nr1 cr1] ?_
 intro v13 Y C;replace A:=Rg.cell A Xf C zbf nXf (by decide);replace QR:=QR.cell C eQRbf;replace QS:=QS.cell C eQSbf;replace QF:=QF.cell C eQFbf;replace Xs:=Xs.chg C dbs_bf;replace Xi:=Xi.chg C dbi_bf;replace Xr:=Xr.chg C dbr_bf;replace Xk:=Xk.chg C dbk_bf;replace Qr1:=Qr1.cell C eQr1bf;replace Xg4:=Xg4.chg C dg4_bf;replace Qq6:=Qq6.cell C eQq6bf;replace Qq8:=Qq8.cell C eQq8bf;replace Qq10:=Qq10.cell C eQq10bf;clear C Xf;have Xf:=Y;clear Y;refine ay (iZ (.tuple #[]) (rs0 (by kernel_rfl)) ?_);exact⟨_,_,_,_,_,_,_,_,rfl,A.sx,A.cg,Xr,Qq10,by omega,fQq10,Xf,Qr1,by omega,fQr1⟩
end
end Fo
end Go.Proofs.YthfepflplbahkaaGreatDoor
