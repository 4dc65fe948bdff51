/- Several texts, joined: FoG. -/
import Derived.Test.YthfepflplbahkaaGreatDoorJay
set_option maxRecDepth 100000
set_option maxHeartbeats 8000000
namespace Go.Proofs.YthfepflplbahkaaGreatDoor
namespace Fo
open Go.RowKit Go.Lib Pg Lim Gl Kv Bk Pw
attribute [local go_sem] Oper.semAt_some
set_option linter.unusedVariables false
set_option linter.unusedSimpArgs false
theorem KK:Kd Tryz.prog 135 96 1 24 (.slice none 0 0):=⟨by kernel_rfl,by kernel_rfl,rfl,by simp[Value.cells,Value.oneCell'],by decide⟩
structure KA (w:World) (B:Nat) (v:Value) (ks:List (Value × List Int)):Prop where
 ex:(v=.slice none 0 0/\ks=[])\/∃ b c,v=.slice (some ⟨b,0,none⟩) ks.length c/\B<=b/\Rw w 96 1 b ks.length c (ks.map (·.1))
 obs:∀ p∈ks,OB w (B <= ·) p.1 p.2
section
variable {w w':World} {B g x:Nat} {v:Value} {ks:List (Value × List Int)}
theorem KA.shape (h:KA w B v ks):∃ ao c,v=.slice ao ks.length c:=by
 rcases h.ex with⟨rfl,rfl⟩ | ⟨b,c,rfl,_⟩
 ·exact⟨none,0,rfl⟩
 ·exact⟨_,c,rfl⟩
theorem KA.nil (w:World) (B:Nat):KA w B (.slice none 0 0) []:=⟨.inl ⟨rfl,rfl⟩,fun _ h=>by cases h⟩
theorem KA.keep (h:KA w B v ks) (hb:Below w.heap.size w w'):KA w' B v ks:=⟨h.ex.imp id (fun⟨b,c,e,hl,hR⟩=>⟨b,c,e,hl,hR.keep hb⟩),fun p hp=>(h.obs p hp).keep hb⟩
theorem KA.rcd {C:Nat} (h:KA w B v ks) (hr:Rec C w w'):KA w' B v ks:=⟨h.ex.imp id (fun⟨b,c,e,hl,hR⟩=>⟨b,c,e,hl,Kv.Rw.rcd hR hr⟩),fun p hp=>Kv.OB.rcd (h.obs p hp) hr⟩
theorem KA.chg {F:Nat->Prop} (h:KA w B v ks) (hc:Chg F w w') (hF:∀ b,F b->b < B/\∀ cs,¬ Blk w b cs 5):KA w' B v ks :=
 ⟨h.ex.imp id (fun⟨b,c,e,hl,hR⟩=>⟨b,c,e,hl,hR.chg hc (fun hf=>by have:=(hF b hf).1; omega)⟩),fun p hp=>(h.obs p hp).chg hc (fun b hb cs=>(hF b hb).2 cs)⟩
theorem app_k {p:Value × List Int} {a:Addr} (h:KA w B v ks) (hB:B<=w.heap.size) (hl:ks.length<=2000000000) (ho:OB w (B <= ·) p.1 p.2) (c0:w.cell? (a.add 0)=some p.1) :
  ∃ v' w',(Builtin.append_ #[135,135] 135 #[v,.slice (some a) 1 1]).run Tryz.prog w=.ok v' w'/\KA w' B v' (ks ++ [p])/\Chg (fun b=>B<=b/\∃ cs,Blk w b cs 96) w w':=by
 have hnews:∀ j u,[p.1][j]? = some u->w.cell? (a.add j)=some u:=fun j u hj=>by
  match j with
  | 0=>simp at hj; rw[<- hj]; exact c0
  | k + 1=>simp at hj
 have hnb:∀ b,(B<=b/\∃ cs,Blk w b cs 96)->∀ cs,¬ Blk w b cs 5:=fun b hb cs k=>by
  obtain⟨_,cs',k'⟩:=hb;exact absurd (k.eq k').2 (by decide)
 rcases h.ex with⟨rfl,rfl⟩ | ⟨b,c,rfl,hb,hR⟩
 ·obtain⟨c',w',hr,hR,hw⟩:=fx (w:=w) KK 135 a 1 1 [p.1] rfl hnews (by omega) (by omega) (by omega);refine⟨_,w',hr,⟨.inr ⟨_,c',rfl,hB,by simpa using hR⟩,fun q hq => ?_⟩,Chg.of hw⟩;simp at hq;subst hq;exact ho.keep hw
 ·obtain⟨b',c',w',hr,hb',hR',hC⟩:=dI KK 135 hR a 1 1 [p.1] rfl hnews (fun u hu=>by simp at hu; subst hu; obtain⟨o1,o2,e⟩:=ho.shape; rw[e]; rfl) (by omega) (by omega)
  have hC':Chg (fun b=>B<=b/\∃ cs,Blk w b cs 96) w w':=hC.mono (fun y _ e=>by have e':y=b:=e; subst e'; exact⟨hb,hR.kind⟩);refine⟨_,w',hr,⟨.inr ⟨b',c',by simp,by rcases hb' with rfl | rfl<;>omega,by simpa using hR'⟩,fun q hq => ?_⟩,hC'⟩;rcases List.mem_append.1 hq with h1 | h1
  ·exact(h.obs q h1).chg hC' hnb
  ·simp at h1;subst h1;exact ho.chg hC' hnb
end
section
variable {ops:Array Oper}{rest:List Oper}{pos:String}
def TpK(t:TypeId):Prop:=t=96
theorem ym{F:Fence}{n:Nat}{Q:Exit->Act->World->Prop}{after:Array Edge}{a:Act}{w w':World}{u v r:Value}(hF:∀ f,F.fn f)(hu:a.eval (.tmp 17)=u)(hv:a.eval (.tmp 19)=v)(hr:(Builtin.append_ #[135,135] 135 #[u,v]).run Tryz.prog w=.ok r w')(h:wpListIn F n Tryz.prog ops Q rest (a.put (some 20) r) w') :
  wpListIn F n Tryz.prog ops Q ({ dst:=some 20,op:=.call { callee:=.builtin .append,args:=#[.tmp 17,.tmp 19],argTypes:=#[135,135] },type:=135,pos:=pos,after:=after,guard:=none } :: rest) a w :=
 Ky.jw rfl hF (Oper.semAt_eq _ _ _ (fun c h=>by cases h)) (Ky.iD (x:=17) (y:=19) rfl rfl hu hv hr) h
structure RmI(Wb:World)(t:Nat)(K D:Nat->Prop)(g:Nat)(E:aI)(Wn:List aI)(N x:Nat)(L:List (List Int))(V:World):Prop where
 chg:Chg (fun b=>b=g\/b=t) Wb V
 sa:SA V K D g E Wn x N
 out:∃ v ks,Blk V t [v] 135/\KA V Wb.heap.size v ks/\ks.map (·.2)=L
end
section
variable {Wb V V':World} {t g x N:Nat} {K D:Nat->Prop} {E:aI} {Wn:List aI} {L:List (List Int)}
theorem RmI.rcd (h:RmI Wb t K D g E Wn N x L V) (hr:Rec Wb.heap.size V V'):RmI Wb t K D g E Wn N x L V':=by
 obtain⟨v,ks,h1,h2,h3⟩:=h.out;exact⟨jW h.chg hr (Nat.le_refl _),rP h.sa hr,v,ks,eL h1 hr,h2.rcd hr,h3⟩
theorem RmI.tick (h:RmI Wb t K D g E Wn N x L V) (hg:g < Wb.heap.size):RmI Wb t K D g E Wn N (x + 1) L (tick g V x):=by
 obtain⟨v,ks,h1,h2,h3⟩:=h.out;have hc:=dY g x V
 have hne:t≠g:=fun e=>by
  obtain⟨cs,k⟩:=h.sa.kv;subst e;exact absurd (h1.eq k).2 (by decide)
 refine⟨h.chg.trans hc (fun b _ e=>.inl e),h.sa.tick,v,ks,h1.chg hc hne,h2.chg hc (fun b e => ?_),h3⟩
 have e':b=g:=e;subst e';refine⟨hg,fun cs q => ?_⟩;obtain⟨cs',k'⟩:=h.sa.kv;exact absurd (q.eq k').2 (by decide)
end
section
variable {n B g N:Nat}{R:Ending->World->Prop}{w:World}{ρ:Operand->Value}{o:Oper}{v:Value}{ao:Option Addr}{K:Nat->Prop}{E:aI}{Wn W:List aI}{id:Int}
def mj(E:aI)(k a:Int):List (List Int):=(E.filter (fun x=>decide (Ky.mkb (Ky.frm k) (Ky.tn k a) <+: x.1))).map (·.1)
def nE(E:aI)(k a:Int):aI:=(mj E k a).foldl Kv.rem E
theorem CD{l:Fr}{P:Program}{fn:Func}{D:Nat}(hr:fn.results=#[])(hK:w.heap[D]? = some (.deferred (some [])))(hR:R (.returned (.tuple #[])) (w.putObj D (.deferred none))):GE n [{ target:=.collected D,args:=#[] }] (bodyPostM Fence.wide 0 P fn R) .normal l w:=⟨fun a r=>by
 obtain⟨tmps,dfs⟩:=a
 have e:dfs=[{ target:=.collected D,args:=#[] }]:=r.dfs;subst e;refine⟨by simp,.inl ⟨_,_,rfl,run_takeDeferred hK,?_⟩⟩;exact⟨_,by simp[results,hr],hR⟩⟩
theorem Ca{b off:Nat}(hc:w.cell? ⟨b,off,none⟩=some v)(ho:∃ p,o.op=.load 96 p/\ρ p=.pointer (some ⟨b,off,none⟩):=by exact⟨_,rfl,by kernel_rfl⟩):(execOp ρ o).run Tryz.prog w=.ok (.value v) w:=by
 obtain⟨p,h,hp⟩:=ho;have:=Kv.nN hc;simp only[execOp,h,hp];simp[Instr.loadAt,Instr.sureAddr,Result.andThen,this]
theorem Bw{P:Program}(sz b off n c k:Nat)(hk:k < n)(hao:0 < n->ao=some ⟨b,off,none⟩)(ho:∃ T x y,o.op=.indexAddr T x y/\slT P T sz=true/\ρ x=.slice ao n c/\ρ y=.int .i64 (k:Int):=by exact⟨_,_,_,rfl,by kernel_rfl,by kernel_rfl,by kernel_rfl⟩):(execOp ρ o).run P w=.ok (.value (.pointer (some ⟨b,off + k * sz,none⟩))) w:=by
 rw[hao (by omega)] at ho;exact uE sz b off n c k hk ho
theorem qC{K:Nat → Prop}{x0:Nat}{k a:Int}(h : Sx B w K g E Wn x0 N)(ha : 0 ≤ a ∧ a < 18446744073709551616)(hk : 16 < (Ky.frm k).1)(hN : N ≤ 30000000)(hx : x0 + N ≤ 2000000000000000000) :
    Calls Tryz.prog 41 #[pg g, .int .i64 k, .int .u64 a] w fun e w' => ∃ K' n' N', e = .returned (.tuple #[]) ∧ Sx B w' K' g (nE E k a) Wn n' N' ∧ n' ≤ x0 + 1 + 2 * N ∧ N' ≤ 3 * N ∧ (∀ b, K' b → K b ∨ w.heap.size ≤ b) ∧ Chg K w w' := by
  obtain⟨D, hD0⟩ : ∃ D : Nat → Prop, D = (B ≤ ·) := ⟨_, rfl⟩
  have hS : SA w K D g E Wn x0 N := by rw[hD0]; exact h.sa
  have hlo := h.lo;have hkb := h.kb;clear h
  have hglt : g < w.heap.size := hS.lt hS.top;have A1 := ae w (.cells #[.slice none 0 0] 135);have T1 := aC w [.slice none 0 0] 135;obtain⟨Wa, hWa⟩ : ∃ Wa, Hid (w.alloc (.cells #[.slice none 0 0] 135) = Wa) := ⟨_, rfl⟩
  have zA : Wa.heap.size = w.heap.size + 1 := by rw[← hWa.out]; simp
  rw[hWa.out] at A1 T1;have SB := hS.keep A1;have HS := aB hS;have HB := aB A1;have HT := aB T1;have HSB := aB SB;clear hS A1 T1 SB;refine(callsIn_wide (n := 0)).1 ?_
  refine callsIn_of_wp_marks Tryz.func41 rfl trivial ?_ rfl;simp only[Tryz.ntmps41, List.size_toArray, List.length_cons, List.length_nil, Nat.reduceAdd, Nat.reduceSub, Array.replicate_succ, Array.replicate_zero, List.push_toArray, List.append_toArray, List.nil_append, List.cons_append];gi_wp2_with (refine⟨trivial, rfl, ?_⟩; gi_at_call 74; rw[hWa.out]; refine(callsIn_wide.2 (zN ha hk)).mono ?_; rintro e' w1 ⟨u, rfl, U1, B1⟩);have S1 := HSB.out.keep B1;have T1 := HT.out.keep B1;have zB1 := B1.size
  have hKt : ∀ b, K b → b < w.heap.size := fun b hb => HS.out.lt hb
  have up := qN (Tp := TpK) (X := fun b => b = g ∨ b = w.heap.size) S1 (by omega) U1 (Nat.le_trans (Ky.eJ _ _) (by decide)) (fun b hb => hb.elim .inl (fun e => .inr (fun hk => by have := hKt b hk; omega))) (fun b hb cs q => by
    rcases hb with rfl | rfl
    · obtain⟨cs', k'⟩:= S1.kv
      exact absurd (q.eq k').2 (by decide)
    · exact absurd (q.eq T1).2 (by decide)) (fun b hb => by rcases hb with h | h <;> omega) (by unfold TpK; decide) (by unfold TpK; decide)
  have HS1 := aB S1;have HT1 := aB T1;have HB1 := aB B1;have HU := aB up;clear up S1 T1 B1 U1;gi_wp2_with (refine⟨trivial, rfl, ?_⟩; gi_at_call 73; refine(callsIn_wide.2 HU.out).mono ?_; rintro e' Wb ⟨pv, EL, rfl, IG, hEL, B2⟩);obtain⟨bs1, bs2, bw, W1, rfl, IT, hRd, hb1, hb2⟩:= IG.ex
  have hlE : Hid (EL.length = ia E k a) := by have := congrArg List.length hEL; rw[List.length_map] at this; exact this
  have hlN : EL.length ≤ N := by rw[hlE.out]; exact Nat.le_trans (List.length_filter_le _ _) HS.out.size
  have SB := HS1.out.keep B2;have TB := HT1.out.keep B2;have zB2 := B2.size
  have n1 : bs1 ≠ g := fun e => by obtain⟨cs', k'⟩:= SB.kv; subst e; exact absurd (hRd.2.1.eq k').2 (by decide)
  have n2 : bs2 ≠ g := fun e => by obtain⟨cs', k'⟩:= SB.kv; subst e; exact absurd (hRd.2.2.1.eq k').2 (by decide)
  have RD : ∀ V x L, RmI Wb w.heap.size K D g E Wn N x L V → V.cell? ⟨g, 2, none⟩ = some (.int .i64 (x : Int)) ∧ V.frozen? ⟨g, 2, none⟩ = false ∧ RdC (fun b => b = g ∨ b = w.heap.size) W1 g bs1 bs2 bw V := fun V x i h => by
    have q := h.sa.cnt;exact⟨q.1, q.2, hRd.1.trans h.chg (fun _ _ e => e), hRd.2.1.chg h.chg (fun e => e.elim n1 (fun e => by omega)), hRd.2.2.1.chg h.chg (fun e => e.elim n2 (fun e => by omega)), h.sa.kv⟩
  have hgB : g < Wb.heap.size := by omega
  have HI := aB (show RmI Wb w.heap.size K D g E Wn N x0 ((EL.map En.kl).take 0) Wb from⟨Chg.refl _ _, SB, _, [], TB, KA.nil _ _, rfl⟩);have HB2 := aB B2;have HIT := aB (mQ (g := g) (bs1 := bs1) (bs2 := bs2) (x0 := x0) (xs := fun i => x0 + 1 + i) IT (by unfold TpK; decide) (by omega) (fun i hi => by show x0 + 1 + i ≤ _; omega));have hsm := aB IG.small;have hELH := aB hEL;clear SB TB B2 IT IG hRd hEL;gi_wp2;refine kh HIT.out (by rfl) (enters_of Tryz.func169 (by kernel_rfl) rfl) (fun i args n V V' h hc => h.cel hc) (fun i args n V h => by obtain⟨e, kv, vv, s, _, rfl, _⟩:= h; rfl)
    (fun V => RmI Wb w.heap.size K D g E Wn N x0 ((EL.map En.kl).take 0) V)
    (fun i V => RmI Wb w.heap.size K D g E Wn N (x0 + 1 + i) ((EL.map En.kl).take i) V)
    (fun i V => RmI Wb w.heap.size K D g E Wn N (x0 + 1 + i + 1) ((EL.map En.kl).take i) V)
    (fun c i V => False)
    (fun A B hx hr => hx.rcd hr) (fun i A B hx hr => hx.rcd hr) (fun i A B hx hr => hx.rcd hr) (fun c i A B hx hr => hx) (by omega)
    (fun V hv => by obtain⟨q1, q2, q3⟩:= RD V _ _ hv; exact⟨q1, q2, q3, hv.tick hgB⟩)
    (fun i V hv => by obtain⟨q1, q2, q3⟩:= RD V _ _ hv; exact⟨q1, q2, q3, fun _ => hv.tick hgB⟩)
    HI.out ?_ ?_ ?_
  · rintro l2 i args V Wv hl hlV hrec hiN hT hb ⟨e0, kv, vv, s0, he0, rfl, hk0, hv0, _⟩
    simp;gi_wp2;refine⟨Below.refl _ _, ?_⟩;intro V2 W2 hT2 hb2 hAr2 hoth hsz3 hV2 r hrec2;obtain⟨e1, kv1, vv1, t1, he1, harr, hk2, hv2, ht1⟩:= hAr2;obtain rfl : e1 = e0 := by rw[he0] at he1; cases he1; rfl
    simp at harr;obtain⟨rfl, rfl⟩:= harr;obtain⟨ak, ck, hk1⟩:= hk2.shape;subst hk1;obtain⟨v, ks, o1, o2, o3⟩:= hT2.out
    have hli : ks.length = i := by
      have := congrArg List.length o3;rw[List.length_map, List.length_take, List.length_map] at this;omega
    obtain⟨ao, cc, rfl⟩:= o2.shape;rw[hli] at o1 o2;have z2 := hb2.size;have zT := hT2.chg.size;have P0 := o1.keep hb2;have Q0 := o2.keep hb2;have hBa := ae W2 (.cells #[.slice ak e1.kl.length ck] 96);have N4 := aC W2 [.slice ak e1.kl.length ck] 96;obtain⟨W4, hW4⟩ : ∃ W4, Hid (W2.alloc (.cells #[.slice ak e1.kl.length ck] 96) = W4) := ⟨_, rfl⟩;rw[hW4.out] at hBa N4;have z4 := hBa.size;obtain⟨v5, w5, hr5, U5, C5⟩:= app_k (p := (.slice ak e1.kl.length ck, e1.kl)) (a := ⟨W2.heap.size, 0, none⟩) (Q0.keep hBa) (by omega) (by rw[hli]; omega) ((hk2.mono (fun b _ h => by have := h.1; omega)).keep hBa) (N4.cell (i := 0) rfl)
    have hl5 : (ks ++ [((.slice ak e1.kl.length ck : Value), e1.kl)]).length = i + 1 := by rw[List.length_append, hli]; rfl
    obtain⟨a5, c5, rfl⟩:= U5.shape;rw[hl5] at U5 hr5;have S5 := (P0.keep hBa).chg C5 (fun h => by obtain⟨_, cs, k⟩:= h; exact absurd (k.eq (P0.keep hBa)).2 (by decide));obtain⟨q1, hq1⟩ : ∃ q1, Hid (i + 1 = q1) := ⟨_, rfl⟩;rw[hq1.out] at U5 hr5
    have hC6 : Chg (· = w.heap.size) w5 (w5.setCell ⟨w.heap.size, 0, none⟩ (.slice a5 q1 c5)) := (Chg.refl (fun x => x = w.heap.size) w5).cell (.inl (by rfl)) _;have S6 := S5.setCell (i := 0) (.slice a5 q1 c5)
    have hK5 : bE TpK Wb.heap.size W4 w5 := ⟨C5.size, fun k o _ h0 hs => (C5.same k (lt_of_block h0) (fun h => by
      obtain⟨_, cs, kb⟩:= h;rw[kb.blk] at h0
      cases h0;exact hs _ _ _ rfl rfl)).trans h0⟩
    have hKe : bE TpK Wb.heap.size W2 (w5.setCell ⟨w.heap.size, 0, none⟩ (.slice a5 q1 c5)) := ((bE.of hBa).trans hK5).trans ⟨hC6.size, fun k o hk h0 _ => (hC6.same k (lt_of_block h0) (fun e => by have e' : k = w.heap.size := e; omega)).trans h0⟩
    have hTI : RmI Wb w.heap.size K D g E Wn N (x0 + 1 + (i + 1)) ((EL.map En.kl).take (i + 1)) (w5.setCell ⟨w.heap.size, 0, none⟩ (.slice a5 q1 c5)) := by
      refine⟨?_, ?_, ⟨_, ks ++ [(.slice ak e1.kl.length ck, e1.kl)], S6, ?_, ?_⟩⟩
      · exact((hT2.chg.trans (Chg.of (F := fun _ => False) (ah hb2 hBa)) (fun _ _ h => h.elim)).trans C5 (fun b h1 h2 => by have := h2.1; omega)).trans hC6 (fun b _ h => .inr h)
      · have q := ((hT2.sa.keep (ah hb2 hBa)).chg C5 (fun b h1 hk => by have := hKt b hk; have := h1.1; omega) (fun b h1 cs kk => by obtain⟨_, cs', k'⟩:= h1; exact absurd (kk.eq k').2 (by decide))).chg hC6 (fun b e hk => by have e' : b = w.heap.size := e; have := hKt b hk; omega) (fun b e cs kk => by
          have e' : b = w.heap.size := e;subst e';exact absurd (kk.eq S5).2 (by decide))
        rw[show x0 + 1 + (i + 1) = x0 + 1 + i + 1 by omega];exact q
      · refine U5.chg hC6 (fun b e => ?_)
        have e' : b = w.heap.size := e;subst e';exact⟨by omega, fun cs kk => absurd (kk.eq S5).2 (by decide)⟩
      · rw[List.map_append, o3, List.take_add_one, List.getElem?_map, he0]
        rfl
    have p0c := P0.cell (i := 0) rfl;have s5c := S5.cell (i := 0) rfl;have s5f := S5.free 0;have HKE := aB hKe;have HTI := aB hTI;clear hT hoth hb hT2 hb2 P0 Q0 N4 hBa U5 C5 S5 hC6 S6 hK5 hKe hTI o1 o2 o3 hli hl5 z2 zT z4 hsz3 hV2 hk2 hv2 hk0 hv0 he1;rw[← hW4.out] at hr5;clear hW4;gi_wp2_with (first | (have gate := hr5; clear gate; (with_reducible refine ym ?_ ?_ ?_ hr5 ?_); (exact fun _ => trivial); rfl; rfl; clear hr5));exact⟨HKE.out, HTI.out⟩
  · rintro D' W' hD hK hT
    rename_i Q' Kc hc;obtain⟨v, ks, o1, o2, o3⟩:= hT.out;rw[List.take_of_length_le (by rw[List.length_map]; exact Nat.le_refl _)] at o3;obtain⟨ao, cc, rfl⟩:= o2.shape;obtain⟨ln, hln⟩ : ∃ ln, ks.length = ln := ⟨_, rfl⟩
    have hlen : ln = EL.length := by rw[← hln, ← List.length_map (f := (·.2)), o3, List.length_map]
    rw[hln] at o1 o2
    have zW' := hT.chg.size
    have hT' := hT.sa;rw[hD0] at hT'
    have hKeys : EL.map En.kl = mj E k a := by
      unfold mj;rw[← hELH.out, List.map_map];rfl
    have zz := ah (ah HB.out HB1.out) HB2.out
    have hC0 : Chg K w W' := (Chg.of (F := K) zz).trans hT.chg (fun b hl e => e.elim (fun e => e ▸ HS.out.top) (fun e => by omega))
    have Sx0 : Sx B W' K g E Wn (x0 + 1 + ln) N := ⟨by rw[hlen]; exact hT', Nat.le_trans hlo hC0.size, hkb⟩;obtain⟨pb, hao, hkl⟩ : ∃ pb, (0 < ln → ao = some ⟨pb, 0, none⟩) ∧ ∀ i p, ks[i]? = some p → ∀ V K' E' n' N', Bk.At B W' K V K' g E' Wn n' N' → V.cell? ⟨pb, 0 + i * 1, none⟩ = some p.1 ∧ ByU V p.1 p.2 := by
      rcases o2.ex with⟨e1, e2⟩ | ⟨b, c, e1, hb, hR⟩
      · exact⟨0, fun h => by rw[e2] at hln; simp at hln; omega, fun i p hp => by rw[e2] at hp; cases hp⟩
      · refine⟨b, fun _ => by cases e1; rfl, fun i p hp V K' E' n' N' hA => ⟨?_, ?_⟩⟩
        · have hc := hR.cell (i := i) (by rw[List.getElem?_map, hp]; rfl)
          rw[show 0 + i * 1 = i by omega, World.cell?_of_block (w := W') (hA.cc.same b hR.lt (fun hk => by have := hKt b hk; omega))];exact hc
        · exact(ByU.of (o2.obs p (List.mem_of_getElem? hp))).chg hA.cc Sx0.sa.kind
    have hDlt : D' < W'.heap.size := lt_of_block hK
    have hDK : ¬ K D' := fun hb => by have := hKt _ hb; omega
    have hsm2 : ∀ (i : Nat) (p : Value × List Int), ks[i]? = some p → p.2.length ≤ 1000000000 := fun i p hp => by
      have : p.2 ∈ EL.map En.kl := by rw[← o3]; exact List.mem_map.2 ⟨p, List.mem_of_getElem? hp, rfl⟩
      obtain⟨e, he, e2⟩:= List.mem_map.1 this;rw[← e2];exact(hsm.out e he).1
    have hfin : ∀ V K' n' N', Bk.At B W' K V K' g ((mj E k a).foldl Kv.rem E) Wn n' N' → V.heap[D']? = some (.deferred (some [])) ∧ Sx B (V.putObj D' (.deferred none)) K' g (nE E k a) Wn n' N' ∧ (∀ b, K' b → K b ∨ w.heap.size ≤ b) ∧ Chg K w (V.putObj D' (.deferred none)) := fun V K' n' N' hA => by
      have hv : V.heap[D']? = some (.deferred (some [])) := (hA.cc.same D' hDlt hDK).trans hK;have R3 := Rec.put (B := w.heap.size) hv rfl (by omega) (.deferred none);refine⟨hv, ⟨rP hA.sx.sa R3, Nat.le_trans hA.sx.lo R3.size, hA.sx.kb⟩, fun b hb => (hA.km b hb).imp_right (Nat.le_trans hC0.size), ?_⟩;exact jW (hC0.trans hA.cc (fun b _ h => h)) R3 (Nat.le_refl _)
    have A := Sx0.at
    have hn1 : ln ≤ N := by omega
    refine hc _ _ (wpIn_wide.2 (GC.out (n := 31) (ds := [{ target := .collected D', args := #[] }]) (l := [(0, pg g), (6, pg w.heap.size)]) ?_ _ ⟨rfl, rfl, fun q u hq => ?_⟩))
    · have Xt := o1
      refine ax (aA (tl 21 (.slice ao ln cc) Xt 0 ?_));refine t 22 (.int .i64 ((ln : Nat) : Int)) ?_
      refine t 23 (.int .i64 0) ?_
      refine ay (ai (gQ ?_));clear Xt;refine uj (fun i => ln - i) (fun(i : Nat) => [(0, pg g), (21, .slice ao ln cc), (22, .int .i64 ((ln : Nat) : Int)), (23, .int .i64 (i : Int))]) (fun i V => i ≤ ln ∧ ∃ K2 n2 N2, Bk.At B W' K V K2 g (((mj E k a).take i).foldl Kv.rem E) Wn n2 N2 ∧ n2 ≤ x0 + 1 + ln + i ∧ N2 ≤ N + 2 * i) (0 : Nat) ⟨Nat.zero_le _, _, _, _, A, by omega, by omega⟩ (by kernel_rfl) ?_
      clear A;rintro i v1 ⟨hi, K2, n2, N2, A, hn2, hN2⟩;refine ax (aA ?_);by_cases ci : (i : Int) < ((ln : Nat) : Int)
      · have hk_i : i < ln := by omega
        obtain⟨pk, hpk⟩ : ∃ p, ks[i]? = some p := ⟨ks[i], List.getElem?_eq_getElem (by omega)⟩;refine tq 24 (.bool (decide ((i : Int) < ((ln : Nat) : Int)))) (.bool true) (congrArg Value.bool (decide_eq_true ci)) ?_
        refine ay (ai (ax (fN ?_)));refine dh (ai (ax (gQ (ax (aA (tr 25 (pq pb (0 + i * 1)) (Bw 1 pb 0 ln cc i hk_i hao) ?_))))));refine tr 26 (pk.1) (Ca (hkl i pk hpk _ _ _ _ _ A).1) ?_
        refine t 9 (pk.1) ?_
        refine ay (ai (aA (t 27 (pg g) ?_)));refine t 28 (pk.1) ?_
        refine tc 29 75 #[pg g, pk.1] (xdel A.sx (hkl i pk hpk _ _ _ _ _ A).2 (hsm2 i pk hpk) (by omega) (by omega)) ?_
        rintro _ v3 ⟨rfl, K2, S, hK, hC⟩;refine⟨_, rfl, ?_⟩;replace A := A.op S hK hC;clear S hK hC;refine ay (yj (ai (aA (tq 30 (.int .i64 (IntKind.i64.wrap ((i : Int) + 1))) (.int .i64 ((i : Int) + 1)) (wi (by omega)) ?_))));refine t 23 (.int .i64 ((i : Int) + 1)) ?_
        refine ay ?_
        have hstep : ((mj E k a).take (i + 1)).foldl Kv.rem E = Kv.rem (((mj E k a).take i).foldl Kv.rem E) pk.2 := by
          rw[List.take_add_one, ← hKeys, ← o3, List.getElem?_map, hpk, List.foldl_append];rfl
        rw[← hstep] at A;exact ry (i + 1) (by show ln - (i + 1) < ln - i; omega) ⟨hk_i, _, _, _, A, by omega, by omega⟩ (by kernel_rfl)
      · refine tq 24 (.bool (decide ((i : Int) < ((ln : Nat) : Int)))) (.bool false) (congrArg Value.bool (decide_eq_false ci)) ?_
        refine ay (ai (ax (eR ?_)));refine uw (uD (uD (DE ?_)))
        have hil : ln ≤ i := by omega
        rw[List.take_of_length_le (by rw[← hKeys, List.length_map, ← hlen]; exact hil)] at A;obtain⟨f1, f2, f3, f4⟩:= hfin _ _ _ _ A;exact CD (by kernel_rfl) f1 ⟨_, _, _, rfl, f2, by omega, by omega, f3, f4⟩
    · have hm := sZ hq
      simp at hm;rcases hm with⟨rfl, rfl⟩ | ⟨rfl, rfl⟩ <;> rfl
  · rintro D' c i W' hD hK hi h
    exact h.elim
theorem CW(h:Sx B w K g E W n N)(hid:0<=id/\id < 18446744073709551616)(hN:N<=30000000)(hn:n + 3 * N + 10<=2000000000000000000):Calls Tryz.prog 12 #[pg g,.int .u64 id] w fun e w'=>∃ K' n',e=.returned (.tuple #[.int .i64 ((ia E 7 id:Nat):Int),.int .i64 ((ia E 8 id:Nat):Int)])/\Sx B w' K' g E W n' N/\n'<=n + 2 + 2 * N/\(∀ b,K' b->K b\/w.heap.size<=b)/\Chg K w w':=by
 have A:=h.at
 refine aT (n:=12) Tryz.func12 rfl (by kernel_rfl) (by kernel_rfl) ?_
 refine ax (aA (t 4 (.int .i64 0) ?_));refine t 5 (.int .i64 0) ?_
 refine ay (ai (ax (aA (t 6 (pg g) ?_))));refine t 7 (.int .u64 id) ?_
 refine tc 8 40 #[pg g,.int .i64 7,.int .u64 id] (rN A.sx hid (by decide) (by omega) (by omega)) ?_
 rintro _ v2 ⟨rfl,S,q1,C⟩;refine⟨_,rfl,?_⟩;have hC:=C.mono (fun b _ (e:b=g)=>e▸A.sx.sa.top);replace A:=A.op S (fun _ h=>.inl h) hC;clear S hC C;refine t 9 (pg g) ?_
 refine t 10 (.int .u64 id) ?_
 refine tc 11 40 #[pg g,.int .i64 8,.int .u64 id] (rN A.sx hid (by decide) (by omega) (by omega)) ?_
 rintro _ v4 ⟨rfl,S,q3,C⟩;refine⟨_,rfl,?_⟩;have hC:=C.mono (fun b _ (e:b=g)=>e▸A.sx.sa.top);replace A:=A.op S (fun _ h=>.inl h) hC;clear S hC C;refine t 4 (.int .i64 ((ia E 7 id:Nat):Int)) ?_
 refine t 5 (.int .i64 ((ia E 8 id:Nat):Int)) ?_
 refine ay (ai (bB [(4,.int .i64 ((ia E 7 id:Nat):Int)),(5,.int .i64 ((ia E 8 id:Nat):Int))] (by kernel_rfl) ?_));refine aZ (bh (.tuple #[.int .i64 ((ia E 7 id:Nat):Int),.int .i64 ((ia E 8 id:Nat):Int)]) (rs2 4 5 (by kernel_rfl) (by kernel_rfl) (by kernel_rfl)) ?_);exact⟨_,_,rfl,A.sx,by omega,A.km,A.cc⟩
theorem gone_x(h:Sx B w K g E W n N)(hid:0<=id/\id < 18446744073709551616)(hN:N<=10000000)(hn:n + 30 * N + 10<=2000000000000000000):Calls Tryz.prog 14 #[pg g,.int .u64 id] w fun e w'=>∃ K' n' N',e=.returned (.tuple #[])/\Sx B w' K' g (nE (nE E 7 id) 8 id) W n' N'/\n'<=n + 20 * N + 10/\N'<=9 * N/\(∀ b,K' b->K b\/w.heap.size<=b)/\Chg K w w':=by
 have A:=h.at
 refine aT (n:=10) Tryz.func14 rfl (by kernel_rfl) (by kernel_rfl) ?_
 refine ax (aA (t 4 (pg g) ?_));refine t 5 (.int .u64 id) ?_
 refine tc 6 41 #[pg g,.int .i64 7,.int .u64 id] (qC A.sx hid (by decide) (by omega) (by omega)) ?_
 rintro _ v5 ⟨K1,n2,N3,rfl,S,qn2,qN3,hK,hC⟩;refine⟨_,rfl,?_⟩;replace A:=A.op S hK hC;clear S hK hC;refine ay (ai (aA (t 7 (pg g) ?_)));refine t 8 (.int .u64 id) ?_
 refine tc 9 41 #[pg g,.int .i64 8,.int .u64 id] (qC A.sx hid (by decide) (by omega) (by omega)) ?_
 rintro _ v10 ⟨K6,n7,N8,rfl,S,qn7,qN8,hK,hC⟩;refine⟨_,rfl,?_⟩;replace A:=A.op S hK hC;clear S hK hC;refine ay (iZ (.tuple #[]) (rs0 (by kernel_rfl)) ?_);exact⟨_,_,_,rfl,A.sx,by omega,by omega,A.km,A.cc⟩
end
end Fo
end Go.Proofs.YthfepflplbahkaaGreatDoor
