/- Several texts, joined: FoL. -/
import Derived.Test.YthfepflplbahkaaGreatDoorJaA
set_option maxRecDepth 100000
set_option maxHeartbeats 8000000
namespace Go.Proofs.YthfepflplbahkaaGreatDoor
namespace Fo
open Go.RowKit Go.Lib Pg Lim Gl Kv Bk Pw
section
variable {w:World}
attribute [local go_sem] Oper.semAt_some
set_option linter.unusedVariables false
set_option linter.unusedSimpArgs false
structure F1s where
 bk:Nat
 bf:Nat
 aF:Option Addr
 nF:Nat
 cF:Nat
 zF:Nat
structure F1(B:Nat)(w V:World)(K:Nat->Prop)(g:Nat)(E:aI)(W:List aI)(n N:Nat)(a5:Option Addr)(n5 c5 z5:Nat)(x5 F:Int)(r0:Nat)(s:F1s):Prop where
 A:Rg (· = g) B w V K g E W (n + 1) N
 xk:Blk V s.bk [.slice a5 n5 c5] 32
 xf:Blk V s.bf [.slice s.aF s.nF s.cF] 32
 nk:¬ K s.bk
 nf:¬ K s.bf
 ne:s.bk≠s.bf
 q5:Nq V K z5 a5 n5 c5 x5
 qf:Nq V K s.zF s.aF s.nF s.cF F
 mf:s.nF<=510
 rk:s.bk≠r0
 rf:s.bf≠r0
 zk:w.heap.size<=s.bk\/s.bk=g
 zf:w.heap.size<=s.bf\/s.bf=g
def okM(Q:Exit->Act->World->Prop):Exit->Act->World->Prop
 | .normal,a,w=>Q .normal a w
 | .ret,a,w=>Q .ret a w
 | _,_,_=>False
theorem weakM{c:Code}{a:Act}{Q:Exit->Act->World->Prop}(h:c.wp Tryz.prog (okM Q) a w):c.wp Tryz.prog Q a w :=
 Code.wp_mono (fun e a' w' h=>by
  cases e<;>first
   | exact h
   | exact h.elim) h
structure PfE(B:Nat)(w:World)(K:Nat->Prop)(g:Nat)(E:aI)(W:List aI)(D r y:Nat)(a:Option Addr)(k d x:Nat)(V:Int)(u:Unit)(N:Nat)(V':World):Prop where
 s:Sx B V' K g E W x N
 c:Chg (· = g) w V'
 df:V'.heap[D]? = some (.deferred (some []))
 q:Nq V' K y a k d V
end
section
variable {B:Nat} {w V' V2:World} {K:Nat->Prop} {g:Nat} {E:aI} {W:List aI} {D r y:Nat} {a:Option Addr} {k d x:Nat} {V:Int} {N:Nat}
section
variable {b:Option Addr}{n:Nat}{fn:Func}{R:Ending->World->Prop}{w:World}{v:Value}
theorem PfE.drew(h:PfE B w K g E W D r y a k d x V () N V'):PfE B w K g E W D r y a k d x V () N V'.drew:=⟨h.s.keep (Below.refl _ _).drew,h.c.trans (Chg.of (F:=fun _=>False) (Below.refl _ _).drew) (fun _ _ h=>h.elim),h.df,h.q.drew⟩
theorem PfE.cell{c:Nat}(h:PfE B w K g E W D r y a k d x V () N V')(hX:Blk V' r [.slice b n c] 32)(C:Chg (· = r) V' V2)(nk:¬ K r)(hz:w.heap.size<=r\/r=g):PfE B w K g E W D r y a k d x V () N V2:=by
 refine⟨⟨h.s.sa.chg C (fun b e hb=>nk ((show b=r from e)▸hb)) (fun b e cs kk=>by have e':b=r:=e; subst e'; exact absurd (kk.eq hX).2 (by decide)),Nat.le_trans h.s.lo C.size,h.s.kb⟩,h.c.trans C (fun b hb e=>by have e':b=r:=e; rcases hz with z1 | z1<;>first | omega | exact e'.trans z1),?_,h.q.cell C (dS h.q hX (fun y h=>by cases h))⟩;refine(C.same D (lt_of_block h.df) (fun e => ?_)).trans h.df
 have e':D=r:=e;have:=h.df;rw[e',hX.blk] at this
 cases this
theorem PfE.fin(h:PfE B w K g E W D r y a k d x V () N V')(hD:w.heap.size<=D):Sx B (V'.putObj D (.deferred none)) K g E W x N/\Chg (· = g) w (V'.putObj D (.deferred none))/\Nq (V'.putObj D (.deferred none)) K y a k d V:=by
 have R:=Rec.put (B:=w.heap.size) h.df rfl hD (.deferred none);exact⟨⟨rP h.s.sa R,Nat.le_trans h.s.lo R.size,h.s.kb⟩,jW h.c R (Nat.le_refl _),h.q.rcd R⟩
theorem Bb{l:Fr}(hK:w.heap[D]? = some (.deferred (some [])))(hr:∀ a,Rd n [{ target:=.collected D,args:=#[] }] l a->(results fn a.tmps).run Tryz.prog (w.putObj D (.deferred none))=.ok v (w.putObj D (.deferred none)))(hR:R (.returned v) (w.putObj D (.deferred none))):GE n [{ target:=.collected D,args:=#[] }] (okM (bodyPostM Fence.wide 0 Tryz.prog fn R)) .ret l w:=⟨fun a r=>by
 have hr':=hr a r;obtain⟨tmps,dfs⟩:=a
 have e:dfs=[{ target:=.collected D,args:=#[] }]:=r.dfs;subst e
 show bodyPostM Fence.wide 0 Tryz.prog fn R .ret _ _
 refine⟨by simp,.inl ⟨_,_,rfl,run_takeDeferred hK,?_⟩⟩;exact⟨_,hr',hR⟩⟩
theorem rsctM{ds:List Deferred}{l:Fr}{P:Program}(j k:Nat){T:TypeId}{g:Nat}{u:Value}(h:fn.results=#[.cell j T,.tmp k])(hu:lk l j=some (.pointer (some ⟨g,0,none⟩)))(hv:lk l k=some v)(hl:(loadVar T ⟨g,0,none⟩).run P w=.ok u w)(a:Act)(r:Rd n ds l a):(results fn a.tmps).run P w=.ok (.tuple #[u,v]) w:=by
 have h1:=r.gD hu;have h2:=r.gD hv;simp at h1 h2;simp[results,h,h1,h2,asAddr,hl]
end
end
section
variable {n:Nat}{vs:List Value}{a:Act}{w:World}{K:Nat → Prop}{W:List aI}{a0 a1 a2 a3 a4 a5:Option Addr}
structure oU(B:Nat)(w:World)(K:Nat->Prop)(g:Nat)(E:aI)(W:List aI)(n N c:Nat)(V:Int)(e:Ending)(w':World):Prop where
 ex:∃ a k d z,e=.returned (.tuple #[.agg #[.slice a k d],.int .i64 (c:Int)])/\Sx B w' K g E W (n + 3 + 2 * c) N/\Chg (· = g) w w'/\Nq w' K z a k d V/\k<=3000000000/\(k=0\/w.heap.size<=z)
def clV(E:aI)(id fr la x:Int):Int:=(j5 E id fr la x (dt E id fr la).length).1 + (j5 E id fr la x (dt E id fr la).length).2.1 * jd (hX (got E (Ky.mk 7 id la)) 0) (j5 E id fr la x (dt E id fr la).length).2.2 / U36
theorem rd_en(ha:a=⟨vs.toArray ++ Array.replicate (n - vs.length) undef,[]⟩)(hs:Nat.ble vs.length n=true):Rd n [] (en 0 vs) a:=by
 subst ha;have hs:=Nat.le_of_ble_eq_true hs;refine⟨?_,rfl,fun k v hk => ?_⟩
 ·simp;omega
 ·obtain⟨_,h2⟩:=xz vs 0 k v hk;rw[Nat.sub_zero] at h2;have hlt:=(List.getElem?_eq_some_iff.1 h2).1;simp only;rw[Array.getElem?_append_left (by simpa using hlt)];simpa using h2
theorem BO{l:Fr}(r:Rd n [] l a):∃ x:Nat->Value,a=⟨((List.range n).map fun k=>(lk l k).getD (x k)).toArray,[]⟩:=by
 refine⟨fun k=>a.tmps.getD k undef,?_⟩;obtain⟨tm,df⟩:=a;obtain⟨h1,h2,h3⟩:=r;simp only at h1 h2 h3;subst h2;congr 1
 apply Array.ext
 ·simp[h1]
 ·intro i hi _;simp only[List.getElem_toArray,List.getElem_map,List.getElem_range]
  cases e:lk l i with
  | none=>simp[hi]
  | some v =>
   have:=h3 i v e;rw[Array.getElem?_eq_getElem hi] at this;simpa using this
theorem kG{B:Nat}{g:Nat}{E:aI}{N:Nat}{rt tk un pe id dp:Int}{jl bo:Bool}{n0 c0 z0:Nat}{x0:Int}{n1 c1 z1:Nat}{x1:Int}{n2 c2 z2:Nat}{x2:Int}{n3 c3 z3:Nat}{x3:Int}{n4 c4 z4:Nat}{x4:Int}{n5 c5 z5:Nat}{x5:Int}(h : Sx B w K g E W n N)(hid : 0 ≤ id ∧ id < 18446744073709551616)(Q5 : Nq w K z5 a5 n5 c5 x5)(m5 : n5 ≤ 1000000)(hRk : ∀ x ∈ oA E id dp ((pe - 1) % 18446744073709551616), Ky.frm (8 : Nat) = Ky.fIn x.1)(hn2 : n ≤ 1000000000000000000)(hcl : (dt E id dp ((pe - 1) % 18446744073709551616)).length ≤ 1000)(hn : n + 3000 ≤ 4000000000000000000)(hN : N + 3000 ≤ 100000000) : Calls Tryz.prog 20 #[pg g, .int .u64 id, .agg #[.int .u64 rt, .int .u64 tk, .slice a0 n0 c0, .bool jl, .int .u64 un, .bool bo, .int .u64 pe, .slice a1 n1 c1, .slice a2 n2 c2, .slice a3 n3 c3], .agg #[.slice a4 n4 c4, .int .u64 dp, .slice a5 n5 c5]] w (oU B w K g E W n N (dt E id dp ((pe - 1) % 18446744073709551616)).length (clV E id dp ((pe - 1) % 18446744073709551616) x5)) := by
  have A := rg_of (X := (· = g)) h rfl;refine(callsIn_wide (n := 0)).1 ?_
  refine callsIn_of_wp_marks Tryz.func20 rfl trivial ?_ rfl;refine wpIn_wide.2 (weakM (GC.out (n := 50) (ds := []) (l := en 0 [pg g, .int .u64 id, .agg #[.int .u64 rt, .int .u64 tk, .slice a0 n0 c0, .bool jl, .int .u64 un, .bool bo, .int .u64 pe, .slice a1 n1 c1, .slice a2 n2 c2, .slice a3 n3 c3], .agg #[.slice a4 n4 c4, .int .u64 dp, .slice a5 n5 c5]]) ?_ _ (rd_en (by rfl) (by kernel_rfl))));refine ax (aA (ta 4 [pg g] 37 (pg) ?_));intro v1 g2 Xg2 hg2 B;have zg2 := Or.inl (b := (fun b => b = g) g2) (Nat.le_trans A.size hg2);have nXg2 := A.new hg2;have eQ5g2 := ne1 Q5.lt hg2;replace A := A.keep B;replace Q5 := Q5.keep B;clear B;have lXg2 := Xg2.lt;refine ta 5 [.int .u64 id] 22 (pg) ?_
  intro v3 g4 Xg4 hg4 B;have zg4 := Or.inl (b := (fun b => b = g) g4) (Nat.le_trans A.size hg4);have nXg4 := A.new hg4;have eQ5g4 := ne1 Q5.lt hg4;have dg4_g2 := ne4 Xg2.lt hg4;replace A := A.keep B;replace Q5 := Q5.keep B;replace Xg2 := Xg2.keep B;clear B;have lXg2 := Xg2.lt;have lXg4 := Xg4.lt;refine ta 6 [.int .u64 rt, .int .u64 tk, .slice a0 n0 c0, .bool jl, .int .u64 un, .bool bo, .int .u64 pe, .slice a1 n1 c1, .slice a2 n2 c2, .slice a3 n3 c3] 39 (pg) ?_
  intro v5 g6 Xg6 hg6 B;have zg6 := Or.inl (b := (fun b => b = g) g6) (Nat.le_trans A.size hg6);have nXg6 := A.new hg6;have eQ5g6 := ne1 Q5.lt hg6;have dg6_g2 := ne4 Xg2.lt hg6;have dg6_g4 := ne4 Xg4.lt hg6;replace A := A.keep B;replace Q5 := Q5.keep B;replace Xg2 := Xg2.keep B;replace Xg4 := Xg4.keep B;clear B;have lXg2 := Xg2.lt;have lXg4 := Xg4.lt;have lXg6 := Xg6.lt;refine ta 7 [.slice a4 n4 c4, .int .u64 dp, .slice a5 n5 c5] 54 (pg) ?_
  intro v7 g8 Xg8 hg8 B;have zg8 := Or.inl (b := (fun b => b = g) g8) (Nat.le_trans A.size hg8);have nXg8 := A.new hg8;have eQ5g8 := ne1 Q5.lt hg8;have dg8_g2 := ne4 Xg2.lt hg8;have dg8_g4 := ne4 Xg4.lt hg8;have dg8_g6 := ne4 Xg6.lt hg8;replace A := A.keep B;replace Q5 := Q5.keep B;replace Xg2 := Xg2.keep B;replace Xg4 := Xg4.keep B;replace Xg6 := Xg6.keep B;clear B;have lXg2 := Xg2.lt;have lXg4 := Xg4.lt;have lXg6 := Xg6.lt;have lXg8 := Xg8.lt;refine ta 8 [.slice none 0 0] 32 (pg) ?_
  intro v9 g10 Xg10 hg10 B;have zg10 := Or.inl (b := (fun b => b = g) g10) (Nat.le_trans A.size hg10);have nXg10 := A.new hg10;have eQ5g10 := ne1 Q5.lt hg10;have dg10_g2 := ne4 Xg2.lt hg10;have dg10_g4 := ne4 Xg4.lt hg10;have dg10_g6 := ne4 Xg6.lt hg10;have dg10_g8 := ne4 Xg8.lt hg10;replace A := A.keep B;replace Q5 := Q5.keep B;replace Xg2 := Xg2.keep B;replace Xg4 := Xg4.keep B;replace Xg6 := Xg6.keep B;replace Xg8 := Xg8.keep B;clear B;refine t 9 (.int .i64 0) ?_
  refine ay (ai ?_);refine uG (fun(s : F1s) => [(4, pg g2), (5, pg g4), (7, pg g8), (8, pg g10), (9, .int .i64 0), (10, pg s.bk), (11, pg s.bf), (12, .int .u64 ((pe - 1) % 18446744073709551616))]) (fun s V => F1 B w V K g E W n N a5 n5 c5 z5 x5 (hX (got E (Ky.mk 7 id dp)) 0) g10 s ∧ Blk V g2 [pg g] 37 ∧ Blk V g4 [.int .u64 id] 22 ∧ Blk V g6 [.int .u64 rt, .int .u64 tk, .slice a0 n0 c0, .bool jl, .int .u64 un, .bool bo, .int .u64 pe, .slice a1 n1 c1, .slice a2 n2 c2, .slice a3 n3 c3] 39 ∧ Blk V g8 [.slice a4 n4 c4, .int .u64 dp, .slice a5 n5 c5] 54 ∧ Blk V g10 [.slice none 0 0] 32) ?_ ?_
  · replace A := A.drew
    replace Q5 := Q5.drew;replace Xg2 := Xg2.drew;replace Xg4 := Xg4.drew;replace Xg6 := Xg6.drew;replace Xg8 := Xg8.drew;replace Xg10 := Xg10.drew;refine cU (fun w' => Blk w' g8 [.slice a4 n4 c4, .int .u64 dp, .slice a5 n5 c5] 54 ∧ Blk w' g2 [pg g] 37 ∧ Blk w' g4 [.int .u64 id] 22 ∧ Blk w' g6 [.int .u64 rt, .int .u64 tk, .slice a0 n0 c0, .bool jl, .int .u64 un, .bool bo, .int .u64 pe, .slice a1 n1 c1, .slice a2 n2 c2, .slice a3 n3 c3] 39) (fun _ => false) ⟨Xg8, Xg2, Xg4, Xg6⟩ ?_
    refine z 0 18 (pq g8 2) ?_
    refine zlr 1 19 [.slice a5 n5 c5] (fun _ h => h.1) 2 ?_
    refine zl 2 20 (pg g) (fun _ h => h.2.1) 0 ?_
    refine zl 3 21 (.int .u64 id) (fun _ h => h.2.2.1) 0 ?_
    refine z 4 22 (pq g8 1) ?_
    refine zl 5 23 (.int .u64 dp) (fun _ h => h.1) 1 ?_
    refine z 7 25 (pq g6 6) ?_
    refine zl 8 26 (.int .u64 pe) (fun _ h => h.2.2.2) 6 ?_
    refine zq 9 27 (.int .u64 (IntKind.u64.wrap (pe - 1))) (.int .u64 ((pe - 1) % 18446744073709551616)) (congrArg (Value.int .u64) (IntKind.wrap_u64 _)) ?_
    refine cQ [6, 10, 11] ?_
    refine ed 6 (some 24) 49 #[pg g, .int .u64 id, .int .u64 dp] (ku A.sx hid (by omega) (by omega)) ?_ ?_
    · rintro _ v12 ⟨ar11, nr11, cr11, rfl, zr11, S, C, Qr11, mr11, hr11⟩
      have eQr11g2 := ne2 hr11 Xg2.lt;have eQr11g4 := ne2 hr11 Xg4.lt;have eQr11g6 := ne2 hr11 Xg6.lt;have eQr11g8 := ne2 hr11 Xg8.lt;have eQr11g10 := ne2 hr11 Xg10.lt;have fQr11 := ne3 hr11 A.size;clear hr11;have hC := C.mono (fun b _ (e : b = g) => e ▸ A.top);replace Q5 := Q5.op (fun _ h => .inl h) hC;replace Xg2 := Xg2.chg C (fun e => nXg2 (e ▸ A.top));replace Xg4 := Xg4.chg C (fun e => nXg4 (e ▸ A.top));replace Xg6 := Xg6.chg C (fun e => nXg6 (e ▸ A.top));replace Xg8 := Xg8.chg C (fun e => nXg8 (e ▸ A.top));replace Xg10 := Xg10.chg C (fun e => nXg10 (e ▸ A.top));replace A := A.op S C;clear S hC C;refine⟨_, rfl, ⟨Xg8, Xg2, Xg4, Xg6⟩, ?_⟩;refine cQ [10, 11] ?_
      have lXg2 := Xg2.lt;have lXg4 := Xg4.lt;have lXg6 := Xg6.lt;have lXg8 := Xg8.lt;have lXg10 := Xg10.lt;refine zaa 10 10 [.slice none 0 0] 32 (pg) ?_ ?_
      · intro v13 g14 Xg14 hg14 B
        have zg14 := Or.inl (b := (fun b => b = g) g14) (Nat.le_trans A.size hg14);have nXg14 := A.new hg14;have eQ5g14 := ne1 Q5.lt hg14;have eQr11g14 := ne1 Qr11.lt hg14;have dg14_g2 := ne4 Xg2.lt hg14;have dg14_g4 := ne4 Xg4.lt hg14;have dg14_g6 := ne4 Xg6.lt hg14;have dg14_g8 := ne4 Xg8.lt hg14;have dg14_g10 := ne4 Xg10.lt hg14;replace A := A.keep B;replace Q5 := Q5.keep B;replace Xg2 := Xg2.keep B;replace Xg4 := Xg4.keep B;replace Xg6 := Xg6.keep B;replace Xg8 := Xg8.keep B;replace Xg10 := Xg10.keep B;replace Qr11 := Qr11.keep B;clear B;refine⟨⟨Xg8, Xg2, Xg4, Xg6⟩, ?_⟩;have lXg2 := Xg2.lt;have lXg4 := Xg4.lt;have lXg6 := Xg6.lt;have lXg8 := Xg8.lt;have lXg10 := Xg10.lt;have lXg14 := Xg14.lt;refine za 11 11 [.slice none 0 0] 32 (pg) ?_
        intro v15 g16 Xg16 hg16 B;have zg16 := Or.inl (b := (fun b => b = g) g16) (Nat.le_trans A.size hg16);have nXg16 := A.new hg16;have eQ5g16 := ne1 Q5.lt hg16;have eQr11g16 := ne1 Qr11.lt hg16;have dg16_g2 := ne4 Xg2.lt hg16;have dg16_g4 := ne4 Xg4.lt hg16;have dg16_g6 := ne4 Xg6.lt hg16;have dg16_g8 := ne4 Xg8.lt hg16;have dg16_g10 := ne4 Xg10.lt hg16;have dg16_g14 := ne4 Xg14.lt hg16;replace A := A.keep B;replace Q5 := Q5.keep B;replace Xg2 := Xg2.keep B;replace Xg4 := Xg4.keep B;replace Xg6 := Xg6.keep B;replace Xg8 := Xg8.keep B;replace Xg10 := Xg10.keep B;replace Qr11 := Qr11.keep B;replace Xg14 := Xg14.keep B;clear B;refine⟨⟨Xg8, Xg2, Xg4, Xg6⟩, ?_⟩;refine zs 12 Xg14 0 (.agg #[.slice a5 n5 c5]) [.slice a5 n5 c5] [.slice a5 n5 c5] ?_
        intro v17 Y C;replace A := Rg.cell A Xg14 C zg14 nXg14 (by decide);replace Q5 := Q5.cell C eQ5g14;replace Xg2 := Xg2.chg C dg14_g2.symm;replace Xg4 := Xg4.chg C dg14_g4.symm;replace Xg6 := Xg6.chg C dg14_g6.symm;replace Xg8 := Xg8.chg C dg14_g8.symm;replace Xg10 := Xg10.chg C dg14_g10.symm;replace Qr11 := Qr11.cell C eQr11g14;replace Xg16 := Xg16.chg C dg16_g14;clear C Xg14;have Xg14 := Y;clear Y;refine⟨⟨Xg8, Xg2, Xg4, Xg6⟩, ?_⟩;refine zs 13 Xg16 0 (.agg #[.slice ar11 nr11 cr11]) [.slice ar11 nr11 cr11] [.slice ar11 nr11 cr11] ?_
        intro v18 Y C;replace A := Rg.cell A Xg16 C zg16 nXg16 (by decide);replace Q5 := Q5.cell C eQ5g16;replace Xg2 := Xg2.chg C dg16_g2.symm;replace Xg4 := Xg4.chg C dg16_g4.symm;replace Xg6 := Xg6.chg C dg16_g6.symm;replace Xg8 := Xg8.chg C dg16_g8.symm;replace Xg10 := Xg10.chg C dg16_g10.symm;replace Qr11 := Qr11.cell C eQr11g16;replace Xg14 := Xg14.chg C dg16_g14.symm;clear C Xg16;have Xg16 := Y;clear Y;refine⟨⟨Xg8, Xg2, Xg4, Xg6⟩, ?_⟩;refine z 14 12 (.int .u64 ((pe - 1) % 18446744073709551616)) ?_
        refine bM ?_
        exact fo (⟨g14, g16, ar11, nr11, cr11, zr11⟩ : F1s) ⟨⟨A, Xg14, Xg16, nXg14, nXg16, dg16_g14.symm, Q5, Qr11, by omega, dg14_g10, dg16_g10, zg14, zg16⟩, Xg2, Xg4, Xg6, Xg8, Xg10⟩ (by kernel_rfl)
      have lXg2 := Xg2.lt;have lXg4 := Xg4.lt;have lXg6 := Xg6.lt;have lXg8 := Xg8.lt;have lXg10 := Xg10.lt;refine zaa 11 11 [.slice none 0 0] 32 (pg) ?_ ?_
      · intro v19 g20 Xg20 hg20 B
        have zg20 := Or.inl (b := (fun b => b = g) g20) (Nat.le_trans A.size hg20);have nXg20 := A.new hg20;have eQ5g20 := ne1 Q5.lt hg20;have eQr11g20 := ne1 Qr11.lt hg20;have dg20_g2 := ne4 Xg2.lt hg20;have dg20_g4 := ne4 Xg4.lt hg20;have dg20_g6 := ne4 Xg6.lt hg20;have dg20_g8 := ne4 Xg8.lt hg20;have dg20_g10 := ne4 Xg10.lt hg20;replace A := A.keep B;replace Q5 := Q5.keep B;replace Xg2 := Xg2.keep B;replace Xg4 := Xg4.keep B;replace Xg6 := Xg6.keep B;replace Xg8 := Xg8.keep B;replace Xg10 := Xg10.keep B;replace Qr11 := Qr11.keep B;clear B;refine⟨⟨Xg8, Xg2, Xg4, Xg6⟩, ?_⟩;have lXg2 := Xg2.lt;have lXg4 := Xg4.lt;have lXg6 := Xg6.lt;have lXg8 := Xg8.lt;have lXg10 := Xg10.lt;have lXg20 := Xg20.lt;refine za 10 10 [.slice none 0 0] 32 (pg) ?_
        intro v21 g22 Xg22 hg22 B;have zg22 := Or.inl (b := (fun b => b = g) g22) (Nat.le_trans A.size hg22);have nXg22 := A.new hg22;have eQ5g22 := ne1 Q5.lt hg22;have eQr11g22 := ne1 Qr11.lt hg22;have dg22_g2 := ne4 Xg2.lt hg22;have dg22_g4 := ne4 Xg4.lt hg22;have dg22_g6 := ne4 Xg6.lt hg22;have dg22_g8 := ne4 Xg8.lt hg22;have dg22_g10 := ne4 Xg10.lt hg22;have dg22_g20 := ne4 Xg20.lt hg22;replace A := A.keep B;replace Q5 := Q5.keep B;replace Xg2 := Xg2.keep B;replace Xg4 := Xg4.keep B;replace Xg6 := Xg6.keep B;replace Xg8 := Xg8.keep B;replace Xg10 := Xg10.keep B;replace Qr11 := Qr11.keep B;replace Xg20 := Xg20.keep B;clear B;refine⟨⟨Xg8, Xg2, Xg4, Xg6⟩, ?_⟩;refine zs 12 Xg22 0 (.agg #[.slice a5 n5 c5]) [.slice a5 n5 c5] [.slice a5 n5 c5] ?_
        intro v23 Y C;replace A := Rg.cell A Xg22 C zg22 nXg22 (by decide);replace Q5 := Q5.cell C eQ5g22;replace Xg2 := Xg2.chg C dg22_g2.symm;replace Xg4 := Xg4.chg C dg22_g4.symm;replace Xg6 := Xg6.chg C dg22_g6.symm;replace Xg8 := Xg8.chg C dg22_g8.symm;replace Xg10 := Xg10.chg C dg22_g10.symm;replace Qr11 := Qr11.cell C eQr11g22;replace Xg20 := Xg20.chg C dg22_g20.symm;clear C Xg22;have Xg22 := Y;clear Y;refine⟨⟨Xg8, Xg2, Xg4, Xg6⟩, ?_⟩;refine zs 13 Xg20 0 (.agg #[.slice ar11 nr11 cr11]) [.slice ar11 nr11 cr11] [.slice ar11 nr11 cr11] ?_
        intro v24 Y C;replace A := Rg.cell A Xg20 C zg20 nXg20 (by decide);replace Q5 := Q5.cell C eQ5g20;replace Xg2 := Xg2.chg C dg20_g2.symm;replace Xg4 := Xg4.chg C dg20_g4.symm;replace Xg6 := Xg6.chg C dg20_g6.symm;replace Xg8 := Xg8.chg C dg20_g8.symm;replace Xg10 := Xg10.chg C dg20_g10.symm;replace Qr11 := Qr11.cell C eQr11g20;replace Xg22 := Xg22.chg C dg22_g20;clear C Xg20;have Xg20 := Y;clear Y;refine⟨⟨Xg8, Xg2, Xg4, Xg6⟩, ?_⟩;refine z 14 12 (.int .u64 ((pe - 1) % 18446744073709551616)) ?_
        refine bM ?_
        exact fo (⟨g22, g20, ar11, nr11, cr11, zr11⟩ : F1s) ⟨⟨A, Xg22, Xg20, nXg22, nXg20, dg22_g20, Q5, Qr11, by omega, dg22_g10, dg20_g10, zg22, zg20⟩, Xg2, Xg4, Xg6, Xg8, Xg10⟩ (by kernel_rfl)
      exact eh
    have lXg2 := Xg2.lt;have lXg4 := Xg4.lt;have lXg6 := Xg6.lt;have lXg8 := Xg8.lt;have lXg10 := Xg10.lt;refine zaa 10 10 [.slice none 0 0] 32 (pg) ?_ ?_
    · intro v25 g26 Xg26 hg26 B
      have zg26 := Or.inl (b := (fun b => b = g) g26) (Nat.le_trans A.size hg26);have nXg26 := A.new hg26;have eQ5g26 := ne1 Q5.lt hg26;have dg26_g2 := ne4 Xg2.lt hg26;have dg26_g4 := ne4 Xg4.lt hg26;have dg26_g6 := ne4 Xg6.lt hg26;have dg26_g8 := ne4 Xg8.lt hg26;have dg26_g10 := ne4 Xg10.lt hg26;replace A := A.keep B;replace Q5 := Q5.keep B;replace Xg2 := Xg2.keep B;replace Xg4 := Xg4.keep B;replace Xg6 := Xg6.keep B;replace Xg8 := Xg8.keep B;replace Xg10 := Xg10.keep B;clear B;refine⟨⟨Xg8, Xg2, Xg4, Xg6⟩, ?_⟩;refine cQ [6, 11] ?_
      refine ed 6 (some 24) 49 #[pg g, .int .u64 id, .int .u64 dp] (ku A.sx hid (by omega) (by omega)) ?_ ?_
      · rintro _ v28 ⟨ar27, nr27, cr27, rfl, zr27, S, C, Qr27, mr27, hr27⟩
        have eQr27g2 := ne2 hr27 Xg2.lt;have eQr27g4 := ne2 hr27 Xg4.lt;have eQr27g6 := ne2 hr27 Xg6.lt;have eQr27g8 := ne2 hr27 Xg8.lt;have eQr27g10 := ne2 hr27 Xg10.lt;have eQr27g26 := ne2 hr27 Xg26.lt;have fQr27 := ne3 hr27 A.size;clear hr27;have hC := C.mono (fun b _ (e : b = g) => e ▸ A.top);replace Q5 := Q5.op (fun _ h => .inl h) hC;replace Xg2 := Xg2.chg C (fun e => nXg2 (e ▸ A.top));replace Xg4 := Xg4.chg C (fun e => nXg4 (e ▸ A.top));replace Xg6 := Xg6.chg C (fun e => nXg6 (e ▸ A.top));replace Xg8 := Xg8.chg C (fun e => nXg8 (e ▸ A.top));replace Xg10 := Xg10.chg C (fun e => nXg10 (e ▸ A.top));replace Xg26 := Xg26.chg C (fun e => nXg26 (e ▸ A.top));replace A := A.op S C;clear S hC C;refine⟨_, rfl, ⟨Xg8, Xg2, Xg4, Xg6⟩, ?_⟩;have lXg2 := Xg2.lt;have lXg4 := Xg4.lt;have lXg6 := Xg6.lt;have lXg8 := Xg8.lt;have lXg10 := Xg10.lt;have lXg26 := Xg26.lt;refine za 11 11 [.slice none 0 0] 32 (pg) ?_
        intro v29 g30 Xg30 hg30 B;have zg30 := Or.inl (b := (fun b => b = g) g30) (Nat.le_trans A.size hg30);have nXg30 := A.new hg30;have eQ5g30 := ne1 Q5.lt hg30;have eQr27g30 := ne1 Qr27.lt hg30;have dg30_g2 := ne4 Xg2.lt hg30;have dg30_g4 := ne4 Xg4.lt hg30;have dg30_g6 := ne4 Xg6.lt hg30;have dg30_g8 := ne4 Xg8.lt hg30;have dg30_g10 := ne4 Xg10.lt hg30;have dg30_g26 := ne4 Xg26.lt hg30;replace A := A.keep B;replace Q5 := Q5.keep B;replace Xg2 := Xg2.keep B;replace Xg4 := Xg4.keep B;replace Xg6 := Xg6.keep B;replace Xg8 := Xg8.keep B;replace Xg10 := Xg10.keep B;replace Xg26 := Xg26.keep B;replace Qr27 := Qr27.keep B;clear B;refine⟨⟨Xg8, Xg2, Xg4, Xg6⟩, ?_⟩;refine zs 12 Xg26 0 (.agg #[.slice a5 n5 c5]) [.slice a5 n5 c5] [.slice a5 n5 c5] ?_
        intro v31 Y C;replace A := Rg.cell A Xg26 C zg26 nXg26 (by decide);replace Q5 := Q5.cell C eQ5g26;replace Xg2 := Xg2.chg C dg26_g2.symm;replace Xg4 := Xg4.chg C dg26_g4.symm;replace Xg6 := Xg6.chg C dg26_g6.symm;replace Xg8 := Xg8.chg C dg26_g8.symm;replace Xg10 := Xg10.chg C dg26_g10.symm;replace Qr27 := Qr27.cell C eQr27g26;replace Xg30 := Xg30.chg C dg30_g26;clear C Xg26;have Xg26 := Y;clear Y;refine⟨⟨Xg8, Xg2, Xg4, Xg6⟩, ?_⟩;refine zs 13 Xg30 0 (.agg #[.slice ar27 nr27 cr27]) [.slice ar27 nr27 cr27] [.slice ar27 nr27 cr27] ?_
        intro v32 Y C;replace A := Rg.cell A Xg30 C zg30 nXg30 (by decide);replace Q5 := Q5.cell C eQ5g30;replace Xg2 := Xg2.chg C dg30_g2.symm;replace Xg4 := Xg4.chg C dg30_g4.symm;replace Xg6 := Xg6.chg C dg30_g6.symm;replace Xg8 := Xg8.chg C dg30_g8.symm;replace Xg10 := Xg10.chg C dg30_g10.symm;replace Xg26 := Xg26.chg C dg30_g26.symm;replace Qr27 := Qr27.cell C eQr27g30;clear C Xg30;have Xg30 := Y;clear Y;refine⟨⟨Xg8, Xg2, Xg4, Xg6⟩, ?_⟩;refine z 14 12 (.int .u64 ((pe - 1) % 18446744073709551616)) ?_
        refine bM ?_
        exact fo (⟨g26, g30, ar27, nr27, cr27, zr27⟩ : F1s) ⟨⟨A, Xg26, Xg30, nXg26, nXg30, dg30_g26.symm, Q5, Qr27, by omega, dg26_g10, dg30_g10, zg26, zg30⟩, Xg2, Xg4, Xg6, Xg8, Xg10⟩ (by kernel_rfl)
      have lXg2 := Xg2.lt;have lXg4 := Xg4.lt;have lXg6 := Xg6.lt;have lXg8 := Xg8.lt;have lXg10 := Xg10.lt;have lXg26 := Xg26.lt;refine zaa 11 11 [.slice none 0 0] 32 (pg) ?_ ?_
      · intro v33 g34 Xg34 hg34 B
        have zg34 := Or.inl (b := (fun b => b = g) g34) (Nat.le_trans A.size hg34);have nXg34 := A.new hg34;have eQ5g34 := ne1 Q5.lt hg34;have dg34_g2 := ne4 Xg2.lt hg34;have dg34_g4 := ne4 Xg4.lt hg34;have dg34_g6 := ne4 Xg6.lt hg34;have dg34_g8 := ne4 Xg8.lt hg34;have dg34_g10 := ne4 Xg10.lt hg34;have dg34_g26 := ne4 Xg26.lt hg34;replace A := A.keep B;replace Q5 := Q5.keep B;replace Xg2 := Xg2.keep B;replace Xg4 := Xg4.keep B;replace Xg6 := Xg6.keep B;replace Xg8 := Xg8.keep B;replace Xg10 := Xg10.keep B;replace Xg26 := Xg26.keep B;clear B;refine⟨⟨Xg8, Xg2, Xg4, Xg6⟩, ?_⟩;refine zc 6 24 49 #[pg g, .int .u64 id, .int .u64 dp] (ku A.sx hid (by omega) (by omega)) ?_
        rintro _ v36 ⟨ar35, nr35, cr35, rfl, zr35, S, C, Qr35, mr35, hr35⟩;have eQr35g2 := ne2 hr35 Xg2.lt;have eQr35g4 := ne2 hr35 Xg4.lt;have eQr35g6 := ne2 hr35 Xg6.lt;have eQr35g8 := ne2 hr35 Xg8.lt;have eQr35g10 := ne2 hr35 Xg10.lt;have eQr35g26 := ne2 hr35 Xg26.lt;have eQr35g34 := ne2 hr35 Xg34.lt;have fQr35 := ne3 hr35 A.size;clear hr35;have hC := C.mono (fun b _ (e : b = g) => e ▸ A.top);replace Q5 := Q5.op (fun _ h => .inl h) hC;replace Xg2 := Xg2.chg C (fun e => nXg2 (e ▸ A.top));replace Xg4 := Xg4.chg C (fun e => nXg4 (e ▸ A.top));replace Xg6 := Xg6.chg C (fun e => nXg6 (e ▸ A.top));replace Xg8 := Xg8.chg C (fun e => nXg8 (e ▸ A.top));replace Xg10 := Xg10.chg C (fun e => nXg10 (e ▸ A.top));replace Xg26 := Xg26.chg C (fun e => nXg26 (e ▸ A.top));replace Xg34 := Xg34.chg C (fun e => nXg34 (e ▸ A.top));replace A := A.op S C;clear S hC C;refine⟨_, rfl, ⟨Xg8, Xg2, Xg4, Xg6⟩, ?_⟩;refine zs 12 Xg26 0 (.agg #[.slice a5 n5 c5]) [.slice a5 n5 c5] [.slice a5 n5 c5] ?_
        intro v37 Y C;replace A := Rg.cell A Xg26 C zg26 nXg26 (by decide);replace Q5 := Q5.cell C eQ5g26;replace Xg2 := Xg2.chg C dg26_g2.symm;replace Xg4 := Xg4.chg C dg26_g4.symm;replace Xg6 := Xg6.chg C dg26_g6.symm;replace Xg8 := Xg8.chg C dg26_g8.symm;replace Xg10 := Xg10.chg C dg26_g10.symm;replace Xg34 := Xg34.chg C dg34_g26;replace Qr35 := Qr35.cell C eQr35g26;clear C Xg26;have Xg26 := Y;clear Y;refine⟨⟨Xg8, Xg2, Xg4, Xg6⟩, ?_⟩;refine zs 13 Xg34 0 (.agg #[.slice ar35 nr35 cr35]) [.slice ar35 nr35 cr35] [.slice ar35 nr35 cr35] ?_
        intro v38 Y C;replace A := Rg.cell A Xg34 C zg34 nXg34 (by decide);replace Q5 := Q5.cell C eQ5g34;replace Xg2 := Xg2.chg C dg34_g2.symm;replace Xg4 := Xg4.chg C dg34_g4.symm;replace Xg6 := Xg6.chg C dg34_g6.symm;replace Xg8 := Xg8.chg C dg34_g8.symm;replace Xg10 := Xg10.chg C dg34_g10.symm;replace Xg26 := Xg26.chg C dg34_g26.symm;replace Qr35 := Qr35.cell C eQr35g34;clear C Xg34;have Xg34 := Y;clear Y;refine⟨⟨Xg8, Xg2, Xg4, Xg6⟩, ?_⟩;refine z 14 12 (.int .u64 ((pe - 1) % 18446744073709551616)) ?_
        refine bM ?_
        exact fo (⟨g26, g34, ar35, nr35, cr35, zr35⟩ : F1s) ⟨⟨A, Xg26, Xg34, nXg26, nXg34, dg34_g26.symm, Q5, Qr35, by omega, dg26_g10, dg34_g10, zg26, zg34⟩, Xg2, Xg4, Xg6, Xg8, Xg10⟩ (by kernel_rfl)
      exact eh
    have lXg2 := Xg2.lt;have lXg4 := Xg4.lt;have lXg6 := Xg6.lt;have lXg8 := Xg8.lt;have lXg10 := Xg10.lt;refine zaa 11 11 [.slice none 0 0] 32 (pg) ?_ ?_
    · intro v39 g40 Xg40 hg40 B
      have zg40 := Or.inl (b := (fun b => b = g) g40) (Nat.le_trans A.size hg40);have nXg40 := A.new hg40;have eQ5g40 := ne1 Q5.lt hg40;have dg40_g2 := ne4 Xg2.lt hg40;have dg40_g4 := ne4 Xg4.lt hg40;have dg40_g6 := ne4 Xg6.lt hg40;have dg40_g8 := ne4 Xg8.lt hg40;have dg40_g10 := ne4 Xg10.lt hg40;replace A := A.keep B;replace Q5 := Q5.keep B;replace Xg2 := Xg2.keep B;replace Xg4 := Xg4.keep B;replace Xg6 := Xg6.keep B;replace Xg8 := Xg8.keep B;replace Xg10 := Xg10.keep B;clear B;refine⟨⟨Xg8, Xg2, Xg4, Xg6⟩, ?_⟩;refine cQ [6, 10] ?_
      refine ed 6 (some 24) 49 #[pg g, .int .u64 id, .int .u64 dp] (ku A.sx hid (by omega) (by omega)) ?_ ?_
      · rintro _ v42 ⟨ar41, nr41, cr41, rfl, zr41, S, C, Qr41, mr41, hr41⟩
        have eQr41g2 := ne2 hr41 Xg2.lt;have eQr41g4 := ne2 hr41 Xg4.lt;have eQr41g6 := ne2 hr41 Xg6.lt;have eQr41g8 := ne2 hr41 Xg8.lt;have eQr41g10 := ne2 hr41 Xg10.lt;have eQr41g40 := ne2 hr41 Xg40.lt;have fQr41 := ne3 hr41 A.size;clear hr41;have hC := C.mono (fun b _ (e : b = g) => e ▸ A.top);replace Q5 := Q5.op (fun _ h => .inl h) hC;replace Xg2 := Xg2.chg C (fun e => nXg2 (e ▸ A.top));replace Xg4 := Xg4.chg C (fun e => nXg4 (e ▸ A.top));replace Xg6 := Xg6.chg C (fun e => nXg6 (e ▸ A.top));replace Xg8 := Xg8.chg C (fun e => nXg8 (e ▸ A.top));replace Xg10 := Xg10.chg C (fun e => nXg10 (e ▸ A.top));replace Xg40 := Xg40.chg C (fun e => nXg40 (e ▸ A.top));replace A := A.op S C;clear S hC C;refine⟨_, rfl, ⟨Xg8, Xg2, Xg4, Xg6⟩, ?_⟩;have lXg2 := Xg2.lt;have lXg4 := Xg4.lt;have lXg6 := Xg6.lt;have lXg8 := Xg8.lt;have lXg10 := Xg10.lt;have lXg40 := Xg40.lt;refine za 10 10 [.slice none 0 0] 32 (pg) ?_
        intro v43 g44 Xg44 hg44 B;have zg44 := Or.inl (b := (fun b => b = g) g44) (Nat.le_trans A.size hg44);have nXg44 := A.new hg44;have eQ5g44 := ne1 Q5.lt hg44;have eQr41g44 := ne1 Qr41.lt hg44;have dg44_g2 := ne4 Xg2.lt hg44;have dg44_g4 := ne4 Xg4.lt hg44;have dg44_g6 := ne4 Xg6.lt hg44;have dg44_g8 := ne4 Xg8.lt hg44;have dg44_g10 := ne4 Xg10.lt hg44;have dg44_g40 := ne4 Xg40.lt hg44;replace A := A.keep B;replace Q5 := Q5.keep B;replace Xg2 := Xg2.keep B;replace Xg4 := Xg4.keep B;replace Xg6 := Xg6.keep B;replace Xg8 := Xg8.keep B;replace Xg10 := Xg10.keep B;replace Xg40 := Xg40.keep B;replace Qr41 := Qr41.keep B;clear B;refine⟨⟨Xg8, Xg2, Xg4, Xg6⟩, ?_⟩;refine zs 12 Xg44 0 (.agg #[.slice a5 n5 c5]) [.slice a5 n5 c5] [.slice a5 n5 c5] ?_
        intro v45 Y C;replace A := Rg.cell A Xg44 C zg44 nXg44 (by decide);replace Q5 := Q5.cell C eQ5g44;replace Xg2 := Xg2.chg C dg44_g2.symm;replace Xg4 := Xg4.chg C dg44_g4.symm;replace Xg6 := Xg6.chg C dg44_g6.symm;replace Xg8 := Xg8.chg C dg44_g8.symm;replace Xg10 := Xg10.chg C dg44_g10.symm;replace Xg40 := Xg40.chg C dg44_g40.symm;replace Qr41 := Qr41.cell C eQr41g44;clear C Xg44;have Xg44 := Y;clear Y;refine⟨⟨Xg8, Xg2, Xg4, Xg6⟩, ?_⟩;refine zs 13 Xg40 0 (.agg #[.slice ar41 nr41 cr41]) [.slice ar41 nr41 cr41] [.slice ar41 nr41 cr41] ?_
        intro v46 Y C;replace A := Rg.cell A Xg40 C zg40 nXg40 (by decide);replace Q5 := Q5.cell C eQ5g40;replace Xg2 := Xg2.chg C dg40_g2.symm;replace Xg4 := Xg4.chg C dg40_g4.symm;replace Xg6 := Xg6.chg C dg40_g6.symm;replace Xg8 := Xg8.chg C dg40_g8.symm;replace Xg10 := Xg10.chg C dg40_g10.symm;replace Qr41 := Qr41.cell C eQr41g40;replace Xg44 := Xg44.chg C dg44_g40;clear C Xg40;have Xg40 := Y;clear Y;refine⟨⟨Xg8, Xg2, Xg4, Xg6⟩, ?_⟩;refine z 14 12 (.int .u64 ((pe - 1) % 18446744073709551616)) ?_
        refine bM ?_
        exact fo (⟨g44, g40, ar41, nr41, cr41, zr41⟩ : F1s) ⟨⟨A, Xg44, Xg40, nXg44, nXg40, dg44_g40, Q5, Qr41, by omega, dg44_g10, dg40_g10, zg44, zg40⟩, Xg2, Xg4, Xg6, Xg8, Xg10⟩ (by kernel_rfl)
      have lXg2 := Xg2.lt;have lXg4 := Xg4.lt;have lXg6 := Xg6.lt;have lXg8 := Xg8.lt;have lXg10 := Xg10.lt;have lXg40 := Xg40.lt;refine zaa 10 10 [.slice none 0 0] 32 (pg) ?_ ?_
      · intro v47 g48 Xg48 hg48 B
        have zg48 := Or.inl (b := (fun b => b = g) g48) (Nat.le_trans A.size hg48);have nXg48 := A.new hg48;have eQ5g48 := ne1 Q5.lt hg48;have dg48_g2 := ne4 Xg2.lt hg48;have dg48_g4 := ne4 Xg4.lt hg48;have dg48_g6 := ne4 Xg6.lt hg48;have dg48_g8 := ne4 Xg8.lt hg48;have dg48_g10 := ne4 Xg10.lt hg48;have dg48_g40 := ne4 Xg40.lt hg48;replace A := A.keep B;replace Q5 := Q5.keep B;replace Xg2 := Xg2.keep B;replace Xg4 := Xg4.keep B;replace Xg6 := Xg6.keep B;replace Xg8 := Xg8.keep B;replace Xg10 := Xg10.keep B;replace Xg40 := Xg40.keep B;clear B;refine⟨⟨Xg8, Xg2, Xg4, Xg6⟩, ?_⟩;refine zc 6 24 49 #[pg g, .int .u64 id, .int .u64 dp] (ku A.sx hid (by omega) (by omega)) ?_
        rintro _ v50 ⟨ar49, nr49, cr49, rfl, zr49, S, C, Qr49, mr49, hr49⟩;have eQr49g2 := ne2 hr49 Xg2.lt;have eQr49g4 := ne2 hr49 Xg4.lt;have eQr49g6 := ne2 hr49 Xg6.lt;have eQr49g8 := ne2 hr49 Xg8.lt;have eQr49g10 := ne2 hr49 Xg10.lt;have eQr49g40 := ne2 hr49 Xg40.lt;have eQr49g48 := ne2 hr49 Xg48.lt;have fQr49 := ne3 hr49 A.size;clear hr49;have hC := C.mono (fun b _ (e : b = g) => e ▸ A.top);replace Q5 := Q5.op (fun _ h => .inl h) hC;replace Xg2 := Xg2.chg C (fun e => nXg2 (e ▸ A.top));replace Xg4 := Xg4.chg C (fun e => nXg4 (e ▸ A.top));replace Xg6 := Xg6.chg C (fun e => nXg6 (e ▸ A.top));replace Xg8 := Xg8.chg C (fun e => nXg8 (e ▸ A.top));replace Xg10 := Xg10.chg C (fun e => nXg10 (e ▸ A.top));replace Xg40 := Xg40.chg C (fun e => nXg40 (e ▸ A.top));replace Xg48 := Xg48.chg C (fun e => nXg48 (e ▸ A.top));replace A := A.op S C;clear S hC C;refine⟨_, rfl, ⟨Xg8, Xg2, Xg4, Xg6⟩, ?_⟩;refine zs 12 Xg48 0 (.agg #[.slice a5 n5 c5]) [.slice a5 n5 c5] [.slice a5 n5 c5] ?_
        intro v51 Y C;replace A := Rg.cell A Xg48 C zg48 nXg48 (by decide);replace Q5 := Q5.cell C eQ5g48;replace Xg2 := Xg2.chg C dg48_g2.symm;replace Xg4 := Xg4.chg C dg48_g4.symm;replace Xg6 := Xg6.chg C dg48_g6.symm;replace Xg8 := Xg8.chg C dg48_g8.symm;replace Xg10 := Xg10.chg C dg48_g10.symm;replace Xg40 := Xg40.chg C dg48_g40.symm;replace Qr49 := Qr49.cell C eQr49g48;clear C Xg48;have Xg48 := Y;clear Y;refine⟨⟨Xg8, Xg2, Xg4, Xg6⟩, ?_⟩;refine zs 13 Xg40 0 (.agg #[.slice ar49 nr49 cr49]) [.slice ar49 nr49 cr49] [.slice ar49 nr49 cr49] ?_
        intro v52 Y C;replace A := Rg.cell A Xg40 C zg40 nXg40 (by decide);replace Q5 := Q5.cell C eQ5g40;replace Xg2 := Xg2.chg C dg40_g2.symm;replace Xg4 := Xg4.chg C dg40_g4.symm;replace Xg6 := Xg6.chg C dg40_g6.symm;replace Xg8 := Xg8.chg C dg40_g8.symm;replace Xg10 := Xg10.chg C dg40_g10.symm;replace Xg48 := Xg48.chg C dg48_g40;replace Qr49 := Qr49.cell C eQr49g40;clear C Xg40;have Xg40 := Y;clear Y;refine⟨⟨Xg8, Xg2, Xg4, Xg6⟩, ?_⟩;refine z 14 12 (.int .u64 ((pe - 1) % 18446744073709551616)) ?_
        refine bM ?_
        exact fo (⟨g48, g40, ar49, nr49, cr49, zr49⟩ : F1s) ⟨⟨A, Xg48, Xg40, nXg48, nXg40, dg48_g40, Q5, Qr49, by omega, dg48_g10, dg40_g10, zg48, zg40⟩, Xg2, Xg4, Xg6, Xg8, Xg10⟩ (by kernel_rfl)
      exact eh
    exact eh
  clear A Q5 Xg2 Xg4 Xg6 Xg8 Xg10;rintro⟨bk, bf, aF, nF, cF, zF⟩ v53 ⟨⟨A, Xbk, Xbf, nXbk, nXbf, dbk_bf, Q5, QF, mF, dRk, dRf, zbk, zbf⟩, Xg2, Xg4, Xg6, Xg8, Xg10⟩;simp only at A Xbk Xbf nXbk nXbf dbk_bf Q5 QF mF dRk dRf zbk zbf;refine ax (aA ?_);have lXg2 := Xg2.lt;have lXg4 := Xg4.lt;have lXg6 := Xg6.lt;have lXg8 := Xg8.lt;have lXg10 := Xg10.lt;have lXbk := Xbk.lt;have lXbf := Xbf.lt;refine ta 13 [.slice none 0 0] 32 (pg) ?_
  intro v54 g55 Xg55 hg55 B;have zg55 := Or.inl (b := (fun b => b = g) g55) (Nat.le_trans A.size hg55);have nXg55 := A.new hg55;have eQ5g55 := ne1 Q5.lt hg55;have eQFg55 := ne1 QF.lt hg55;have dg55_g2 := ne4 Xg2.lt hg55;have dg55_g4 := ne4 Xg4.lt hg55;have dg55_g6 := ne4 Xg6.lt hg55;have dg55_g8 := ne4 Xg8.lt hg55;have dg55_g10 := ne4 Xg10.lt hg55;have dg55_bk := ne4 Xbk.lt hg55;have dg55_bf := ne4 Xbf.lt hg55;replace A := A.keep B;replace Q5 := Q5.keep B;replace QF := QF.keep B;replace Xg2 := Xg2.keep B;replace Xg4 := Xg4.keep B;replace Xg6 := Xg6.keep B;replace Xg8 := Xg8.keep B;replace Xg10 := Xg10.keep B;replace Xbk := Xbk.keep B;replace Xbf := Xbf.keep B;clear B;refine ay (ai (ax (aA (t 28 (.func (.func 50) #[] #[pg g2, pg g4, pg g55, pg bk, pg bf]) ?_))));have lXg2 := Xg2.lt;have lXg4 := Xg4.lt;have lXg6 := Xg6.lt;have lXg8 := Xg8.lt;have lXg10 := Xg10.lt;have lXbk := Xbk.lt;have lXbf := Xbf.lt;have lXg55 := Xg55.lt;refine ta 14 [.nilFunc] 106 (pg) ?_
  intro v56 g57 Xg57 hg57 B;have zg57 := Or.inl (b := (fun b => b = g) g57) (Nat.le_trans A.size hg57);have nXg57 := A.new hg57;have eQ5g57 := ne1 Q5.lt hg57;have eQFg57 := ne1 QF.lt hg57;have dg57_g2 := ne4 Xg2.lt hg57;have dg57_g4 := ne4 Xg4.lt hg57;have dg57_g6 := ne4 Xg6.lt hg57;have dg57_g8 := ne4 Xg8.lt hg57;have dg57_g10 := ne4 Xg10.lt hg57;have dg57_bk := ne4 Xbk.lt hg57;have dg57_bf := ne4 Xbf.lt hg57;have dg57_g55 := ne4 Xg55.lt hg57;replace A := A.keep B;replace Q5 := Q5.keep B;replace QF := QF.keep B;replace Xg2 := Xg2.keep B;replace Xg4 := Xg4.keep B;replace Xg6 := Xg6.keep B;replace Xg8 := Xg8.keep B;replace Xg10 := Xg10.keep B;replace Xbk := Xbk.keep B;replace Xbf := Xbf.keep B;replace Xg55 := Xg55.keep B;clear B;refine ts Xg57 0 (.func (.func 50) #[] #[pg g2, pg g4, pg g55, pg bk, pg bf]) [.func (.func 50) #[] #[pg g2, pg g4, pg g55, pg bk, pg bf]] [.func (.func 50) #[] #[pg g2, pg g4, pg g55, pg bk, pg bf]] ?_
  intro v58 Y C;replace A := Rg.cell A Xg57 C zg57 nXg57 (by decide);replace Q5 := Q5.cell C eQ5g57;replace QF := QF.cell C eQFg57;replace Xg2 := Xg2.chg C dg57_g2.symm;replace Xg4 := Xg4.chg C dg57_g4.symm;replace Xg6 := Xg6.chg C dg57_g6.symm;replace Xg8 := Xg8.chg C dg57_g8.symm;replace Xg10 := Xg10.chg C dg57_g10.symm;replace Xbk := Xbk.chg C dg57_bk.symm;replace Xbf := Xbf.chg C dg57_bf.symm;replace Xg55 := Xg55.chg C dg57_g55.symm;clear C Xg57;have Xg57 := Y;clear Y;refine ay (ai (ax (aA ?_)));have lXg2 := Xg2.lt;have lXg4 := Xg4.lt;have lXg6 := Xg6.lt;have lXg8 := Xg8.lt;have lXg10 := Xg10.lt;have lXbk := Xbk.lt;have lXbf := Xbf.lt;have lXg55 := Xg55.lt;have lXg57 := Xg57.lt;refine ta 15 [.int .i64 0] 3 (pg) ?_
  intro v59 g60 Xg60 hg60 B;have zg60 := Or.inl (b := (fun b => b = g) g60) (Nat.le_trans A.size hg60);have nXg60 := A.new hg60;have eQ5g60 := ne1 Q5.lt hg60;have eQFg60 := ne1 QF.lt hg60;have dg60_g2 := ne4 Xg2.lt hg60;have dg60_g4 := ne4 Xg4.lt hg60;have dg60_g6 := ne4 Xg6.lt hg60;have dg60_g8 := ne4 Xg8.lt hg60;have dg60_g10 := ne4 Xg10.lt hg60;have dg60_bk := ne4 Xbk.lt hg60;have dg60_bf := ne4 Xbf.lt hg60;have dg60_g55 := ne4 Xg55.lt hg60;have dg60_g57 := ne4 Xg57.lt hg60;replace A := A.keep B;replace Q5 := Q5.keep B;replace QF := QF.keep B;replace Xg2 := Xg2.keep B;replace Xg4 := Xg4.keep B;replace Xg6 := Xg6.keep B;replace Xg8 := Xg8.keep B;replace Xg10 := Xg10.keep B;replace Xbk := Xbk.keep B;replace Xbf := Xbf.keep B;replace Xg55 := Xg55.keep B;replace Xg57 := Xg57.keep B;clear B;refine ts Xg60 0 (.int .i64 0) [.int .i64 0] [.int .i64 0] ?_
  intro v61 Y C;replace A := Rg.cell A Xg60 C zg60 nXg60 (by decide);replace Q5 := Q5.cell C eQ5g60;replace QF := QF.cell C eQFg60;replace Xg2 := Xg2.chg C dg60_g2.symm;replace Xg4 := Xg4.chg C dg60_g4.symm;replace Xg6 := Xg6.chg C dg60_g6.symm;replace Xg8 := Xg8.chg C dg60_g8.symm;replace Xg10 := Xg10.chg C dg60_g10.symm;replace Xbk := Xbk.chg C dg60_bk.symm;replace Xbf := Xbf.chg C dg60_bf.symm;replace Xg55 := Xg55.chg C dg60_g55.symm;replace Xg57 := Xg57.chg C dg60_g57.symm;clear C Xg60;have Xg60 := Y;clear Y;refine ay (ai (ax (ax (aA (tl 29 (pg g) Xg2 0 ?_)))));refine tl 30 (.int .u64 id) Xg4 0 ?_
  refine t 31 (pq g8 1) ?_
  refine tl 32 (.int .u64 dp) Xg8 1 ?_
  refine t 33 (.int .u64 ((pe - 1) % 18446744073709551616)) ?_
  refine tc 34 53 #[pg g, .int .u64 id, .int .u64 dp, .int .u64 ((pe - 1) % 18446744073709551616)] (Bt) ?_
  rintro _ v62 ⟨rfl, Yc1, Yc2, Yc3, Yc4, B⟩;refine⟨_, rfl, ?_⟩;skip;replace A := A.keep B;replace Q5 := Q5.keep B;replace QF := QF.keep B;replace Xg2 := Xg2.keep B;replace Xg4 := Xg4.keep B;replace Xg6 := Xg6.keep B;replace Xg8 := Xg8.keep B;replace Xg10 := Xg10.keep B;replace Xbk := Xbk.keep B;replace Xbf := Xbf.keep B;replace Xg55 := Xg55.keep B;replace Xg57 := Xg57.keep B;replace Xg60 := Xg60.keep B;clear B;refine ay (ai (gQ (bB [(8, pg g10), (9, .int .i64 0), (10, pg bk), (12, .int .u64 ((pe - 1) % 18446744073709551616)), (13, pg g55), (14, pg g57), (15, pg g60), (34, .func (.func 81) #[] #[.pointer (some ⟨v61.heap.size + 1, 0, none⟩), .pointer (some ⟨v61.heap.size + 1 + 1, 0, none⟩), .pointer (some ⟨v61.heap.size + 1 + 1 + 1, 0, none⟩), .pointer (some ⟨v61.heap.size, 0, none⟩)])] (by kernel_rfl) ?_)));refine⟨fun a r => ?_⟩;obtain⟨x, ha⟩:= BO r;replace ha := ha.trans (show _ = (⟨#[x 0, x 1, x 2, x 3, x 4, x 5, x 6, x 7, pg g10, .int .i64 0, pg bk, x 11, .int .u64 ((pe - 1) % 18446744073709551616), pg g55, pg g57, pg g60, x 16, x 17, x 18, x 19, x 20, x 21, x 22, x 23, x 24, x 25, x 26, x 27, x 28, x 29, x 30, x 31, x 32, x 33, .func (.func 81) #[] #[.pointer (some ⟨v61.heap.size + 1, 0, none⟩), .pointer (some ⟨v61.heap.size + 1 + 1, 0, none⟩), .pointer (some ⟨v61.heap.size + 1 + 1 + 1, 0, none⟩), .pointer (some ⟨v61.heap.size, 0, none⟩)], x 35, x 36, x 37, x 38, x 39, x 40, x 41, x 42, x 43, x 44, x 45, x 46, x 47, x 48, x 49], []⟩ : Act) from rfl);subst ha;clear r
  have nX' : ∀ {b : Nat} {cs : List Value} {T : TypeId}, Blk v62 b cs T → T ≠ 94 → T ≠ 32 → T ≠ 3 → ¬ (b = g ∨ b = g55 ∨ b = bk ∨ b = bf ∨ b = g60) := fun k h1 h2 h3 h => by
    obtain⟨cs', k'⟩:= A.sx.sa.kv;rcases h with e | e | e | e | e
    · rw[e] at k; exact h1 (k.eq k').2
    · rw[e] at k; exact h2 (k.eq Xg55).2
    · rw[e] at k; exact h2 (k.eq Xbk).2
    · rw[e] at k; exact h2 (k.eq Xbf).2
    · rw[e] at k; exact h3 (k.eq Xg60).2
  have hXl : ∀ b, (b = g ∨ b = g55 ∨ b = bk ∨ b = bf ∨ b = g60) → b < v62.heap.size := fun b h => by
    rcases h with e | e | e | e | e <;> rw[e]
    · exact A.sx.sa.lt A.sx.sa.top
    · exact Xg55.lt
    · exact Xbk.lt
    · exact Xbf.lt
    · exact Xg60.lt
  have hX1 : ∀ b, (b = g ∨ b = g55 ∨ b = bk ∨ b = bf ∨ b = g60) → b = g ∨ ¬ K b := fun b h => by
    rcases h with e | e | e | e | e
    · exact .inl e
    · exact .inr (e ▸ nXg55)
    · exact .inr (e ▸ nXbk)
    · exact .inr (e ▸ nXbf)
    · exact .inr (e ▸ nXg60)
  have hXk : Hid (bk ≠ g) := aB (fun e => by obtain⟨cs', k'⟩:= A.sx.sa.kv; rw[← e] at k'; exact absurd (Xbk.eq k').2 (by decide));have sN := nX' Xg2 (by decide) (by decide) (by decide);have iN := nX' Xg4 (by decide) (by decide) (by decide);have IT := xn (X := fun b => b = g ∨ b = g55 ∨ b = bk ∨ b = bf ∨ b = g60) (xs := fun i => n + 1 + 1 + 2 * i) A.sx.sa Yc1 Yc2 Yc3 Yc4 (nX' Yc1 (by decide) (by decide) (by decide)) (nX' Yc2 (by decide) (by decide) (by decide)) (nX' Yc3 (by decide) (by decide) (by decide)) (nX' Yc4 (by decide) (by decide) (by decide)) hX1 hXl hid (by omega) (by omega) (fun i hi => by show n + 1 + 1 + 2 * i ≤ _; omega) hRk
  have I0 : ClI B v62 g55 bk bf g60 K g E W N (n + 1) 0 n5 (j5 E id dp ((pe - 1) % 18446744073709551616) x5 0) v62 := ⟨Chg.refl _ _, A.sx, Xg60, ⟨none, 0, 0, 0, Xg55, dv _ _, Nat.zero_le _⟩, ⟨a5, n5, c5, z5, Xbk, Q5, by omega⟩, aF, nF, cF, zF, Xbf, QF, mF⟩;refine(wpIn_wide (n := 0)).1 ?_
  refine sn IT (by rfl) (enters_of Tryz.func81 (by kernel_rfl) rfl) (fun i args n V V' h hc => h) (fun i args n V h => by obtain⟨c, _, rfl⟩:= h; rfl)
    (fun V => ClI B v62 g55 bk bf g60 K g E W N (n + 1) 0 n5 (j5 E id dp ((pe - 1) % 18446744073709551616) x5 0) V)
    (fun i V => ClI B v62 g55 bk bf g60 K g E W N (n + 1 + 1 + 2 * i) i n5 (j5 E id dp ((pe - 1) % 18446744073709551616) x5 i) V)
    (fun i V => ClI B v62 g55 bk bf g60 K g E W N (n + 1 + 1 + 2 * i + 1) i n5 (j5 E id dp ((pe - 1) % 18446744073709551616) x5 i) V)
    (fun c i V => False)
    (fun A B hx hr => hx.rcd hr) (fun i A B hx hr => hx.rcd hr) (fun i A B hx hr => hx.rcd hr) (fun c i A B hx hr => hx) (hXl g (.inl rfl))
    (fun V hv => by have q := hv.sx.sa.cnt; exact⟨q.1, q.2, hv.rd, hv.tick⟩)
    (fun i V hv => by have q := hv.sx.sa.cnt; exact⟨q.1, q.2, hv.rd, fun _ => hv.tick⟩)
    I0 ?_ ?_ ?_
  · rintro l2 i args V Wv hl hlV hrec hiN hT hb ⟨c, hc, rfl⟩
    simp;gi_wp2;refine⟨ae _ _, ?_⟩;intro V2 W2 hT2 hb2 hAr2 hoth hsz3 hV2 rl hrec2;have I2 := hT2.rcd (Rec.of hb2);have zb := hb.size;have zV := hT.chg.size
    have cB : Blk W2 Wv.heap.size [.int .u64 c.2.1, .int .u64 c.2.2] 111 := ⟨by rw[hoth _ (by omega)]; exact(aC Wv [.int .u64 c.2.1, .int .u64 c.2.2] 111).blk⟩;obtain⟨aR, nR, cR, zR, p1, p2, p3⟩:= I2.rew;obtain⟨aS, nS, cS, zS, q1, q2, q3⟩:= I2.stk;obtain⟨aG, nG, cG, zG, r1, r2, r3⟩:= I2.frm
    have hi : i < 1000 := Nat.lt_of_lt_of_le hiN hcl;have fb := Xg57.chg I2.chg (nX' Xg57 (by decide) (by decide) (by decide));have sb := Xg2.chg I2.chg sN;have ib := Xg4.chg I2.chg iN;have tE := qp (p := c.1) I2.sx hid p2 (by omega) q2 (by omega) r2 (by omega) sb ib p1 q1 r1 nXg2 nXg4 nXg55 nXbk nXbf dg55_bk dg55_bf dbk_bf (fun e => sN (.inr (.inl e))) (fun e => sN (.inr (.inr (.inr (.inl e))))) (fun e => iN (.inr (.inl e))) (fun e => iN (.inr (.inr (.inr (.inl e))))) (dS p2 p1 (fun y h => by cases h)) (dS p2 r1 (fun y h => by cases h)) (dS q2 p1 (fun y h => by cases h)) (dS q2 r1 (fun y h => by cases h)) (dS r2 p1 (fun y h => by cases h)) (dS r2 r1 (fun y h => by cases h)) (by omega) (by omega);have rg := vI A.sx.sa hc;have hst := wO (x := x5) hc;have fc := fb.cell (i := 0) rfl;have zS1 := (dS q2 p1 (fun y h => by cases h));have zS2 := (dS q2 r1 (fun y h => by cases h))
    have zS3 : nS = 0 ∨ zS ≠ g := q2.out.imp_right (fun k e => k (e ▸ A.sx.sa.top))
    have cW : ∀ b, (b = g ∨ b = g55 ∨ b = bf) → b ≠ Wv.heap.size := fun b h e => by
      have := hXl b (h.elim .inl (fun h => h.elim (fun h => .inr (.inl h)) (fun h => .inr (.inr (.inr (.inl h))))));omega
    have HI2 := aB I2;have HcB := aB cB;have Hq1 := aB q1;have Hq2 := aB q2;clear hT hb hT2 hb2 hAr2 hoth I2 cB p1 p2 q1 q2 r1 r2 r3 sb ib fb hrec IT I0 hX1 hc;obtain⟨cp, cb, ca⟩:= c;simp only at tE rg hst HcB ⊢;gi_wp2_with first
      | (refine⟨trivial, rfl, ?_⟩; gi_at_call 50; refine(CallsIn.inRound l2 (callsIn_wide.2 tE)).mono ?_; rintro e' w3 ⟨b1, k1, d1, y1, b2, k2, d2, y2, rfl, S3, C3, R3, N1, m1, f1, F3, N2, m2, f2⟩; clear tE fc; have bk3 := Hq1.out.chg C3 (fun h => h.elim (fun e => (hXk.out e)) (fun h => h.elim (fun e => dg55_bk e.symm) dbk_bf)); have cb3 := HcB.out.chg C3 (fun h => cW _ h rfl); have tB := sf (w := w3) (Hq2.out.to w3 (fun hn => C3.same zS (Hq2.out.lt.resolve_left hn) (fun h => h.elim (zS3.resolve_left hn) (fun h => h.elim (zS1.resolve_left hn) (zS2.resolve_left hn))))).a (by omega) rg.1 rg.2; have kc := bk3.cell (i := 0) rfl; have c0 := cb3.cell (i := 0) rfl; have c1' := cb3.cell (i := 1) rfl)
      | (refine⟨trivial, rfl, ?_⟩; gi_at_call 54; refine(CallsIn.inRound l2 (callsIn_wide.2 tB)).mono ?_; rintro e' w4 ⟨a4', k4, d4, z4', rfl, M4, h4, m4, B4⟩; clear tB kc c0 c1'; obtain⟨⟨x1', x2', x3', x4'⟩, hI, hK⟩:= ClI.go HI2.out hXl dg55_bk dbk_bf nXbk nXg60 S3 C3 R3 N1 (by omega) F3 N2 m2 M4 h4 (by omega) B4; have kc := (bk3.keep B4).cell (i := 0) rfl; have HI3 := aB hI; have HK3 := aB hK; clear hI hK bk3 cb3 S3 C3 R3 N1 F3 N2 M4 B4)
    refine⟨HK3.out, ?_⟩
    show ClI B v62 g55 bk bf g60 K g E W N (n + 1 + 1 + 2 * (i + 1)) (i + 1) n5 (j5 E id dp ((pe - 1) % 18446744073709551616) x5 (i + 1)) _
    rw[hst, show n + 1 + 1 + 2 * (i + 1) = n + 1 + 1 + 2 * i + 1 + 1 by omega];exact HI3.out
  · rintro D' W' hD hK hT
    obtain⟨aR, nR, cR, zR, p1, p2, p3⟩:= hT.rew;obtain⟨aS, nS, cS, zS, q1, q2, q3⟩:= hT.stk;obtain⟨aG, nG, cG, zG, r1, r2, r3⟩:= hT.frm;have fb := Xg57.chg hT.chg (nX' Xg57 (by decide) (by decide) (by decide));have sb := Xg2.chg hT.chg sN;have ib := Xg4.chg hT.chg iN
    have hrg : g10 ≠ g := fun e => nXg10 (e ▸ A.sx.sa.top)
    have hrc : g10 ≠ g60 := dg60_g10.symm;have rb := Xg10.chg hT.chg (fun h => h.elim hrg (fun h => h.elim dg55_g10.symm (fun h => h.elim dRk.symm (fun h => h.elim dRf.symm hrc))))
    have hcr : g60 ≠ g55 := dg60_g55
    have hcf : g60 ≠ bf := dg60_bf
    have hcg : g60 ≠ g := fun e => nXg60 (e ▸ A.sx.sa.top)
    have tE := qp (p := ((pe - 1) % 18446744073709551616)) hT.sx hid p2 (by omega) q2 (by omega) r2 (by omega) sb ib p1 q1 r1 nXg2 nXg4 nXg55 nXbk nXbf dg55_bk dg55_bf dbk_bf (fun e => sN (.inr (.inl e))) (fun e => sN (.inr (.inr (.inr (.inl e))))) (fun e => iN (.inr (.inl e))) (fun e => iN (.inr (.inr (.inr (.inl e))))) (dS p2 p1 (fun y h => by cases h)) (dS p2 r1 (fun y h => by cases h)) (dS q2 p1 (fun y h => by cases h)) (dS q2 r1 (fun y h => by cases h)) (dS r2 p1 (fun y h => by cases h)) (dS r2 r1 (fun y h => by cases h)) (by omega) (by omega);have CC := A.cg.trans hT.chg (fun b hb h => by
      rcases h with e | e | e | e | e
      · exact e
      · rcases zg55 with z1 | z1 <;> first | omega | exact e.trans z1
      · rcases zbk with z1 | z1 <;> first | omega | exact e.trans z1
      · rcases zbf with z1 | z1 <;> first | omega | exact e.trans z1
      · rcases zg60 with z1 | z1 <;> first | omega | exact e.trans z1)
    have cT := hT.cnt
    have hDl : D' < W'.heap.size := lt_of_block hK;refine GE.out (n := 50) (ds := [{ target := .collected D', args := #[] }]) (l := [(8, pg g10), (9, .int .i64 0), (12, .int .u64 ((pe - 1) % 18446744073709551616)), (13, pg g55), (14, pg g57), (15, pg g60)]) ?_ _ ⟨rfl, rfl, fun q u hq => ?_⟩
    · refine yj ?_
      refine ai (ax (aA (tl 45 (.func (.func 50) #[] #[pg g2, pg g4, pg g55, pg bk, pg bf]) fb 0 ?_)));refine t 46 (.int .u64 ((pe - 1) % 18446744073709551616)) ?_
      refine tc 47 50 #[.int .u64 ((pe - 1) % 18446744073709551616), pg g2, pg g4, pg g55, pg bk, pg bf] (tE) ?_
      rintro _ v63 ⟨b1, k1, d1, y1, b2, k2, d2, y2, rfl, S3, C3, R3, N1, m1, f1, F3, N2, m2, f2⟩;refine⟨_, rfl, ?_⟩;have Xc3 := cT.chg C3 (fun h => h.elim hcg (fun h => h.elim hcr hcf));have Xr3 := rb.chg C3 (fun h => h.elim hrg (fun h => h.elim dg55_g10.symm dRf.symm));have hK3 := (C3.same D' hDl (fun h => by have := hXl D' (h.elim .inl (fun h => h.elim (fun h => .inr (.inl h)) (fun h => .inr (.inr (.inr (.inl h)))))); omega)).trans hK;have CC3 := CC.trans C3 (fun b hb h => by
        rcases h with e | e | e
        · exact e
        · rcases zg55 with z1 | z1 <;> first | omega | exact e.trans z1
        · rcases zbf with z1 | z1 <;> first | omega | exact e.trans z1)
      have eN1g10 := dS N1 Xr3 (fun y h => by cases h)
      have PF : PfE B w K g E W D' g10 y1 b1 k1 d1 (n + 1 + 1 + 2 * (dt E id dp ((pe - 1) % 18446744073709551616)).length + 1) (_) () N _ := ⟨S3, CC3, hK3, N1⟩
      have f1w : k1 = 0 ∨ w.heap.size ≤ y1 := ne3 f1 CC.size;clear tE cT rb fb CC;refine ay (ai (ax ?_));replace R3 := R3.drew;replace Xc3 := Xc3.drew;replace Xr3 := Xr3.drew;replace PF := PF.drew;refine cU (fun w' => Blk w' g55 [.slice b1 k1 d1] 32 ∧ Blk w' g60 [.int .i64 (((dt E id dp ((pe - 1) % 18446744073709551616)).length : Nat) : Int)] 3) (fun _ => false) ⟨R3, Xc3⟩ ?_
      refine zlr 0 48 [.slice b1 k1 d1] (fun _ h => h.1) 0 ?_
      refine zl 1 49 (.int .i64 (((dt E id dp ((pe - 1) % 18446744073709551616)).length : Nat) : Int)) (fun _ h => h.2) 0 ?_
      refine zs 2 Xr3 0 (.agg #[.slice b1 k1 d1]) [.slice b1 k1 d1] [.slice b1 k1 d1] ?_
      intro v64 Y C;replace R3 := R3.chg C dg55_g10;replace Xc3 := Xc3.chg C dg60_g10;replace PF := PF.cell Xr3 C nXg10 zg10;clear C Xr3;have Xr3 := Y;clear Y;refine⟨⟨R3, Xc3⟩, ?_⟩;refine z 3 9 (.int .i64 (((dt E id dp ((pe - 1) % 18446744073709551616)).length : Nat) : Int)) ?_
      refine bM (ai (aZ ?_));obtain⟨u1, u2, u3⟩:= PF.fin (Nat.le_trans A.cg.size hD);have Xr4 := eL Xr3 (Rec.put (B := w.heap.size) PF.df rfl (Nat.le_trans A.cg.size hD) (.deferred none));rw[show n + 1 + 1 + 2 * (dt E id dp ((pe - 1) % 18446744073709551616)).length + 1 = n + 3 + 2 * (dt E id dp ((pe - 1) % 18446744073709551616)).length by omega] at u1;exact Bb PF.df (rsctM 8 9 (T := 32) (by kernel_rfl) (by kernel_rfl) (by kernel_rfl) (lr Xr4 0)) ⟨_, _, _, _, rfl, u1, u2, u3, by omega, f1w⟩
    · have hm := sZ hq
      simp at hm;rcases hm with⟨rfl, rfl⟩ | ⟨rfl, rfl⟩ | ⟨rfl, rfl⟩ | ⟨rfl, rfl⟩ | ⟨rfl, rfl⟩ | ⟨rfl, rfl⟩ <;> rfl
  · rintro D' c i W' hD hK hi h
    exact h.elim
end
end Fo
end Go.Proofs.YthfepflplbahkaaGreatDoor
