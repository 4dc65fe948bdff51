/- Several texts, joined: FoE. -/
import Derived.Test.YthfepflplbahkaaGreatDoorJar
import Derived.Test.YthfepflplbahkaaGreatDoorJau
set_option maxRecDepth 100000
set_option maxHeartbeats 8000000
namespace Go.Proofs.YthfepflplbahkaaGreatDoor
namespace Fo
open Go.RowKit Go.Lib Pg Lim Gl Kv Bk Pw
section
variable {w:World}{k a:Int}
attribute [local go_sem] Oper.semAt_some
set_option linter.unusedVariables false
set_option linter.unusedSimpArgs false
theorem und_k(ha:0<=a/\a < 18446744073709551616)(hk:16 < (Ky.frm k).1):Calls Tryz.prog 120 #[.int .i64 k,.int .u64 a] w fun e w'=>∃ v,e=.returned (.tuple #[v,.int .i64 0])/\By w' v (Ky.mkb (Ky.frm k) (Ky.tn k a))/\Below w.heap.size w w':=by
 have u:=Ky.vx (w:=w) (k:=k) ha.1 ha.2;rw[if_pos hk,if_pos hk] at u;refine u.mono ?_
 rintro e w' ⟨v,rfl,O,B⟩;exact⟨v,rfl,O.by,B⟩
theorem zN(ha:0<=a/\a < 18446744073709551616)(hk:16 < (Ky.frm k).1):Calls Tryz.prog 74 #[.int .i64 k,.int .u64 a] w fun e w'=>∃ v,e=.returned v/\By w' v (Ky.mkb (Ky.frm k) (Ky.tn k a))/\Below w.heap.size w w':=by
 have BB:=Below.refl w.heap.size w;refine aT (n:=14) Tryz.func74 rfl (by kernel_rfl) (by kernel_rfl) ?_
 refine ax (aA (t 4 (.slice none 0 0) ?_));refine ay (ai (ax (aA (t 8 (.int .i64 k) ?_))));refine t 9 (.int .u64 a) ?_
 refine tc 10 120 #[.int .i64 k,.int .u64 a] (und_k ha hk) ?_
 rintro _ v1 ⟨v,rfl,U1,B⟩;refine⟨_,rfl,?_⟩;replace BB:=ah BB B;clear B;refine t 7 (.tuple #[v,.int .i64 0]) ?_
 refine t 11 (v) ?_
 refine t 12 (.int .i64 0) ?_
 refine t 5 (v) ?_
 refine t 6 (.int .i64 0) ?_
 refine ay (ai (ax (aA (t 13 (v) ?_))));refine t 4 (v) ?_
 refine ay (ai (bB [(4,v)] (by kernel_rfl) ?_));refine aZ (bh (v) (rs1 4 (by kernel_rfl) (by kernel_rfl)) ?_);exact⟨_,rfl,U1,BB⟩
def ia(E:aI)(k a:Int):Nat:=(E.filter (fun x=>decide (Ky.mkb (Ky.frm k) (Ky.tn k a) <+: x.1))).length
structure kI(Wb:World)(t:Nat)(K D:Nat->Prop)(g:Nat)(E:aI)(Wn:List aI)(N x i:Nat)(V:World):Prop where
 chg:Chg (fun b=>b=g\/b=t) Wb V
 sa:SA V K D g E Wn x N
 out:Blk V t [.int .i64 (i:Int)] 3
end
section
variable {Wb V V':World} {t g x i N:Nat} {K D:Nat->Prop} {E:aI} {Wn:List aI}
theorem rP {B:Nat} (h:SA V K D g E Wn x N) (hr:Rec B V V'):SA V' K D g E Wn x N :=
 h.same (fun b hK=>by obtain⟨cs,t,k,_⟩:=h.kind b hK; exact(hr.same b _ k.blk (.inr rfl)).trans k.blk.symm) (fun b _ _ hk=>by obtain⟨cs,k⟩:=hk; exact(hr.same b _ k.blk (.inr rfl)).trans k.blk.symm)
theorem kI.rcd (h:kI Wb t K D g E Wn N x i V) (hr:Rec Wb.heap.size V V'):kI Wb t K D g E Wn N x i V':=⟨jW h.chg hr (Nat.le_refl _),rP h.sa hr,eL h.out hr⟩
theorem kI.ne (h:kI Wb t K D g E Wn N x i V):t≠g:=fun e=>by
 obtain⟨cs,k⟩:=h.sa.kv;subst e;exact absurd (h.out.eq k).2 (by decide)
theorem kI.tick (h:kI Wb t K D g E Wn N x i V):kI Wb t K D g E Wn N (x + 1) i (tick g V x) :=
 ⟨h.chg.trans (dY g x V) (fun b _ e=>.inl e),h.sa.tick,h.out.chg (dY g x V) h.ne⟩
end
section
variable {w:World}{K:Nat->Prop}{D:Nat → Prop}{g N:Nat}{E:aI}{Wn W:List aI}{k a:Int}
theorem vO{K:Nat → Prop}{x0:Nat}(hS : SA w K D g E Wn x0 N)(ha : 0 ≤ a ∧ a < 18446744073709551616)(hk : 16 < (Ky.frm k).1)(hN : N ≤ 100000000)(hx : x0 + N ≤ 2000000000000000000) :
    Calls Tryz.prog 40 #[pg g, .int .i64 k, .int .u64 a] w fun e w' => ∃ j, e = .returned (.int .i64 ((j : Nat) : Int)) ∧ j = ia E k a ∧ SA w' K D g E Wn (x0 + 1 + j) N ∧ Chg (· = g) w w' := by
  have hglt : g < w.heap.size := hS.lt hS.top;have A1 := ae w (.cells #[.int .i64 0] 3);have T1 := aC w [.int .i64 0] 3;obtain⟨Wa, hWa⟩ : ∃ Wa, Hid (w.alloc (.cells #[.int .i64 0] 3) = Wa) := ⟨_, rfl⟩
  have zA : Wa.heap.size = w.heap.size + 1 := by rw[← hWa.out]; simp
  rw[hWa.out] at A1 T1;have SB := hS.keep A1;have HS := aB hS;have HB := aB A1;have HT := aB T1;have HSB := aB SB;clear hS A1 T1 SB;refine(callsIn_wide (n := 0)).1 ?_
  refine callsIn_of_wp_marks Tryz.func40 rfl trivial ?_ rfl;simp only[Tryz.ntmps40, List.size_toArray, List.length_cons, List.length_nil, Nat.reduceAdd, Nat.reduceSub, Array.replicate_succ, Array.replicate_zero, List.push_toArray, List.append_toArray, List.nil_append, List.cons_append];gi_wp2_with (refine⟨trivial, rfl, ?_⟩; gi_at_call 74; rw[hWa.out]; refine(callsIn_wide.2 (zN ha hk)).mono ?_; rintro e' w1 ⟨u, rfl, U1, B1⟩);have S1 := HSB.out.keep B1;have T1 := HT.out.keep B1;have zB1 := B1.size
  have hKt : ∀ b, K b → b < w.heap.size := fun b hb => HS.out.lt hb
  have hgt : w.heap.size ≠ g := by omega
  have up := qN (Tp := fun _ => False) (X := fun b => b = g ∨ b = w.heap.size) S1 hN U1 (Nat.le_trans (Ky.eJ _ _) (by decide)) (fun b hb => hb.elim .inl (fun e => .inr (fun hk => by have := hKt b hk; omega))) (fun b hb cs q => by
    rcases hb with rfl | rfl
    · obtain⟨cs', k'⟩:= S1.kv
      exact absurd (q.eq k').2 (by decide)
    · exact absurd (q.eq T1).2 (by decide)) (fun b hb => by rcases hb with h | h <;> omega) (fun h => h) (fun h => h)
  have HS1 := aB S1;have HT1 := aB T1;have HB1 := aB B1;have HU := aB up;clear up S1 T1 B1 U1;gi_wp2_with (refine⟨trivial, rfl, ?_⟩; gi_at_call 73; refine(callsIn_wide.2 HU.out).mono ?_; rintro e' Wb ⟨pv, EL, rfl, IG, hEL, B2⟩);obtain⟨bs1, bs2, bw, W1, rfl, IT, hRd, hb1, hb2⟩:= IG.ex
  have hlE : EL.length = ia E k a := by have := congrArg List.length hEL; rw[List.length_map] at this; exact this
  have hlN : EL.length ≤ N := by rw[hlE]; exact Nat.le_trans (List.length_filter_le _ _) HS.out.size
  have SB := HS1.out.keep B2;have TB := HT1.out.keep B2;have zB2 := B2.size
  have n1 : bs1 ≠ g := fun e => by obtain⟨cs', k'⟩:= SB.kv; subst e; exact absurd (hRd.2.1.eq k').2 (by decide)
  have n2 : bs2 ≠ g := fun e => by obtain⟨cs', k'⟩:= SB.kv; subst e; exact absurd (hRd.2.2.1.eq k').2 (by decide)
  have RD : ∀ V x i, kI Wb w.heap.size K D g E Wn N x i V → V.cell? ⟨g, 2, none⟩ = some (.int .i64 (x : Int)) ∧ V.frozen? ⟨g, 2, none⟩ = false ∧ RdC (fun b => b = g ∨ b = w.heap.size) W1 g bs1 bs2 bw V := fun V x i h => by
    have q := h.sa.cnt;exact⟨q.1, q.2, hRd.1.trans h.chg (fun _ _ e => e), hRd.2.1.chg h.chg (fun e => e.elim n1 (fun e => by omega)), hRd.2.2.1.chg h.chg (fun e => e.elim n2 (fun e => by omega)), h.sa.kv⟩
  have I0 : kI Wb w.heap.size K D g E Wn N x0 0 Wb := ⟨Chg.refl _ _, SB, TB⟩;have HI := aB I0;have HB2 := aB B2;have HIT := aB (mQ (g := g) (bs1 := bs1) (bs2 := bs2) (x0 := x0) (xs := fun i => x0 + 1 + i) IT (fun h => h) (by omega) (fun i hi => by show x0 + 1 + i ≤ _; omega));clear I0 SB TB B2 IT IG hRd;gi_wp2;refine kh HIT.out (by rfl) (enters_of Tryz.func169 (by kernel_rfl) rfl) (fun i args n V V' h hc => h.cel hc) (fun i args n V h => by obtain⟨e, kv, vv, s, _, rfl, _⟩:= h; rfl)
    (fun V => kI Wb w.heap.size K D g E Wn N x0 0 V)
    (fun i V => kI Wb w.heap.size K D g E Wn N (x0 + 1 + i) i V)
    (fun i V => kI Wb w.heap.size K D g E Wn N (x0 + 1 + i + 1) i V)
    (fun c i V => False)
    (fun A B hx hr => hx.rcd hr) (fun i A B hx hr => hx.rcd hr) (fun i A B hx hr => hx.rcd hr) (fun c i A B hx hr => hx) (by omega)
    (fun V hv => by obtain⟨q1, q2, q3⟩:= RD V _ _ hv; exact⟨q1, q2, q3, hv.tick⟩)
    (fun i V hv => by obtain⟨q1, q2, q3⟩:= RD V _ _ hv; exact⟨q1, q2, q3, fun _ => hv.tick⟩)
    HI.out ?_ ?_ ?_
  · rintro l2 i args V Wv hl hlV hrec hiN hT hb ⟨e0, kv, vv, s0, he0, rfl, hk0, hv0, _⟩
    simp;gi_wp2;refine⟨Below.refl _ _, ?_⟩;intro V2 W2 hT2 hb2 hAr2 hoth hsz3 hV2 r hrec2;have T2 := hT2.out.keep hb2;have c0 := T2.cell (i := 0) rfl;have f0 := T2.free 0;have HT2 := aB hT2;have hws := hT2.chg.size;have z2 := hb2.size
    have HC : Chg (· = w.heap.size) W2 (W2.setCell ⟨w.heap.size, 0, none⟩ (.int .i64 ((i : Int) + 1))) := (Chg.refl (fun x => x = w.heap.size) W2).cell (.inl (by rfl)) _;have S6 := T2.setCell (i := 0) (.int .i64 ((i : Int) + 1));have HB3 := aB hb2;have hcc := aB HC;have hs6 := aB S6;clear hT hb hoth hT2 hAr2 hb2 HC S6 T2 hk0 hv0;gi_wp2;have hs := hcc.out;refine⟨⟨hs.size, fun k o hk h0 _ => (hs.same k (lt_of_block h0) (by omega)).trans h0⟩, ?_, ?_, ?_⟩
    · exact(HT2.out.chg.trans (Chg.of (F := fun _ => False) HB3.out) (fun _ _ h => h.elim)).trans hs (fun b _ h => .inr h)
    · rw[show x0 + 1 + (i + 1) = x0 + 1 + i + 1 by omega]
      exact(HT2.out.sa.keep HB3.out).chg hs (fun b e hk => by have e' : b = w.heap.size := e; have := hKt b hk; omega) (fun b e cs kk => by
        have e' : b = w.heap.size := e;subst e';exact absurd (kk.eq (HT2.out.out.keep HB3.out)).2 (by decide))
    · have q := hs6.out
      rw[show ((i + 1 : Nat) : Int) = (i : Int) + 1 by omega];exact q
  · rintro D' W' hD hK hT
    have h1c := hT.out.cell (i := 0) rfl;have R3 := Rec.put hK rfl hD (.deferred none);have hT3 := hT.rcd R3;have HT3 := aB hT3;have HD := aB hD;clear hT3 hT;gi_wp2;refine⟨by simp, .inl ⟨_, _, rfl, run_takeDeferred hK, ?_⟩⟩;refine⟨_, results_tmp rfl _ _ _, ia E k a, rfl, rfl, by have q := HT3.out.sa; rw[hlE] at q; exact q, ?_⟩;have q1 := ah (ah HB.out HB1.out) HB2.out;exact(Chg.of (F := (· = g)) q1).trans HT3.out.chg (fun b hl e => e.elim id (fun e => by omega))
  · rintro D' c i W' hD hK hi h
    exact h.elim
theorem rN{B:Nat}{n:Nat}(h:Sx B w K g E W n N)(ha:0<=a/\a < 18446744073709551616)(hk:16 < (Ky.frm k).1)(hN:N<=100000000)(hn:n + N<=2000000000000000000):Calls Tryz.prog 40 #[pg g,.int .i64 k,.int .u64 a] w fun e w'=>e=.returned (.int .i64 ((ia E k a:Nat):Int))/\Sx B w' K g E W (n + 1 + ia E k a) N/\ia E k a<=N/\Chg (· = g) w w':=by
 refine(vO h.sa ha hk hN hn).mono ?_
 rintro e w' ⟨j,rfl,rfl,S,C⟩;exact⟨rfl,⟨S,Nat.le_trans h.lo C.size,h.kb⟩,Nat.le_trans (List.length_filter_le _ _) h.sa.size,C⟩
end
end Fo
end Go.Proofs.YthfepflplbahkaaGreatDoor
