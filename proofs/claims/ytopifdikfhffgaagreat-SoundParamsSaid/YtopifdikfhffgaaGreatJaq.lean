/- Several texts, joined: BkE, BkF, SdB, PwD, SdT. -/
import Derived.Test.YtopifdikfhffgaaGreatJan
import Derived.Test.YtopifdikfhffgaaGreatJap
import Derived.Test.YtopifdikfhffgaaGreatJao
import Derived.Laws.IdiomRangeMap
import Derived.MapKept
import Derived.Test.YtopifdikfhffgaaGreatJai
import Derived.Test.YtopifdikfhffgaaGreatJam
set_option maxRecDepth 100000
set_option maxHeartbeats 8000000
namespace Go.Proofs.YtopifdikfhffgaaGreat
section
namespace Bk
open Go.RowKit Go.Lib Pg Lim Kv
attribute [local go_sem] Oper.semAt_some
structure SumA (w:World) (B t:Nat) (ao:Option Addr) (n c:Nat) (x:Int):Prop where
 ex:∃ b o l,l.length=n/\n<=c/\IsN l x/\Go.Proofs.YtopifdikfhffgaaGreat.At w ao b o l/\B<=b/\b≠t
theorem SumA.off {w w':World} {B t n c:Nat} {ao:Option Addr} {x:Int} (h:SumA w B t ao n c x) (hw:∀ b,B<=b->b≠t->b < w.heap.size->w'.heap[b]? = w.heap[b]?):SumA w' B t ao n c x:=by
 obtain ⟨b,o,l,h1,h2,h3,h4,h5,h6⟩:=h.ex
 refine ⟨b,o,l,h1,h2,h3,⟨h4.loc,fun i hi => ?_⟩,h5,h6⟩
 have hc:=h4.cell i hi
 rw [World.cell?_of_block (w:=w) (hw b h5 h6 (cell_lt hc))]
 exact hc
theorem SumA.cel {w w' : World} {B t n c : Nat} {ao : Option Addr} {x : Int} (h : SumA w B t ao n c x) (hr : Cel w w') : SumA w' B t ao n c x := by
  obtain ⟨b, o, l, h1, h2, h3, h4, h5, h6⟩ := h.ex
  refine ⟨b, o, l, h1, h2, h3, ⟨h4.loc, fun i hi => ?_⟩, h5, h6⟩
  have hc := h4.cell i hi
  have hw : w'.heap[b]? = w.heap[b]? := by
    cases hh : w.heap[b]? with
    | none => simp [World.cell?, hh] at hc
    | some ob => cases ob <;> first
      | exact hr.same b _ hh rfl
      | (simp [World.cell?, hh] at hc)
  rw [World.cell?_of_block (w := w) hw]
  exact hc
theorem SumA.keep {w w':World} {B t n c:Nat} {ao:Option Addr} {x:Int} (h:SumA w B t ao n c x) (hb:Below w.heap.size w w'):SumA w' B t ao n c x:=h.off (fun b _ _ hl=>hb.block b hl)
theorem SumA.w {w:World} {B t n c:Nat} {ao:Option Addr} {x:Int} (h:SumA w B t ao n c x):Rc.NatW w B ao n c x:=by
 obtain ⟨b,o,l,h1,h2,h3,h4,h5,h6⟩:=h.ex
 exact ⟨b,o,l,h1,h2,h3,h4,h5⟩
theorem sum_of {w:World} {B t n c:Nat} {ao:Option Addr} {x:Int} (h:Rc.NatW w B ao n c x) (h1:t < B):SumA w B t ao n c x:=by
 obtain ⟨b,o,l,h1,h2,h3,h4,h5⟩:=h.ex
 exact ⟨b,o,l,h1,h2,h3,h4,h5,by omega⟩
theorem SumA.low {w:World} {B B' t n c:Nat} {ao:Option Addr} {x:Int} (h:SumA w B t ao n c x) (hB:B'<=B):SumA w B' t ao n c x:=by
 obtain ⟨b,o,l,h1,h2,h3,h4,h5,h6⟩:=h.ex
 exact ⟨b,o,l,h1,h2,h3,h4,by omega,h6⟩
theorem sum_at {w:World} {B n c:Nat} {ao:Option Addr} {x:Int} (h:Rc.NatW w B ao n c x) (hB:B<=w.heap.size) (w':World) (hb:Below w.heap.size w w'):SumA w' B w.heap.size ao n c x:=by
 obtain ⟨b,o,l,h1,h2,h3,h4,h5⟩:=h.ex
 rcases Nat.lt_or_ge b w.heap.size with hl | hl
 ·exact SumA.keep ⟨b,o,l,h1,h2,h3,h4,h5,by omega⟩ hb
 ·have hn:l=[]:=by
   cases l with
   | nil=>rfl
   | cons y l=>exact absurd (cell_lt (h4.cell 0 (by simp))) (by simpa using hl)
  subst hn
  exact ⟨w.heap.size + 1,o,[],h1,h2,h3,⟨.inl rfl,fun i hi=>by simp at hi⟩,by omega,by omega⟩
theorem wOf {w:World} {x:Int} (h0:0<=x) (h1:x < 18446744073709551616):Calls Tryz.prog 80 #[.int .u64 x] w fun e w'=>∃ a k d,e=.returned (.slice a k d)/\Rc.NatW w' w.heap.size a k d x/\k<=1/\Below w.heap.size w w':=by
 refine (Go.Proofs.YtopifdikfhffgaaGreat.of_any x w h0 h1).mono ?_
 rintro e w' ⟨v,r,rfl,hnw,hI,hlen,hB⟩
 obtain ⟨a,d,rfl,hO⟩:=Rc.newV_w hnw hI (Nat.le_refl _)
 exact ⟨a,_,d,rfl,hO,hlen,hB⟩
theorem wAdd {w:World} {ao ao':Option Addr} {n c n' c':Nat} {x y:Int} (h:NatA w ao n c x) (h':NatA w ao' n' c' y) (hn:n<=1099511627776) (hn':n'<=1099511627776) :
  Calls Tryz.prog 182 #[.slice ao n c,.slice ao' n' c'] w fun e w'=>∃ a k d,e=.returned (.slice a k d)/\Rc.NatW w' w.heap.size a k d (x + y)/\k<=n + n' + 1/\Below w.heap.size w w':=by
 obtain ⟨b,o,l,h1,h2,h3,h4,rfl⟩:=h.ex
 obtain ⟨b',o',l',h1',h2',h3',h4',rfl⟩:=h'.ex
 refine (add_any ao n c b o ao' n' c' b' o' l l' w h1 h1' h2 h2' hn hn' h3 h3' h4 h4').mono ?_
 rintro e w' ⟨v,r,rfl,hnw,hI,hlen,hB⟩
 obtain ⟨a,d,rfl,hO⟩:=Rc.newV_w hnw hI (Nat.le_refl _)
 exact ⟨a,_,d,rfl,hO,hlen,hB⟩
theorem SA.rcd {w w':World} {K D:Nat->Prop} {g n N B:Nat} {E:Ents} {W:List Ents} (h:SA w K D g E W n N) (hr:Rec B w w'):SA w' K D g E W n N :=
 h.same (fun b hK=>by obtain ⟨cs,t,k,_⟩:=h.kind b hK; exact (hr.same b _ k.blk (.inr rfl)).trans k.blk.symm) (fun b _ _ hk=>by obtain ⟨cs,k⟩:=hk; exact (hr.same b _ k.blk (.inr rfl)).trans k.blk.symm)
theorem ld_n {w:World} {g:Nat} {v:Value} (c:Blk w g [v] 105):(loadVar 105 ⟨g,0,none⟩).run Tryz.prog w=.ok v w:=by
 have c:=c.cell (i:=0) rfl
 go_simp
theorem run_sn {a:Act} {w:World} {o:Oper} (k q:Nat) {g n c:Nat} {u:Value} {ao:Option Addr} (ho:o.op=.store 105 (.tmp k) (.tmp q)) (hp:a.eval (.tmp k)=.pointer (some ⟨g,0,none⟩)) (hq:a.eval (.tmp q)=.slice ao n c) (hb:Blk w g [u] 105) :
  (execOp a.eval o).run Tryz.prog w=.ok .skip (w.setCell ⟨g,0,none⟩ (.slice ao n c)):=by
 have hc:=hb.cell (i:=0) rfl
 have hf:=hb.free 0
 simp only [execOp,ho,hp,hq]
 go_simp
structure TotI (Wb:World) (B t:Nat) (K D:Nat->Prop) (g:Nat) (E:Ents) (Wn:List Ents) (N x i:Nat) (V:World):Prop where
 chg:Chg (fun b=>b=g\/b=t) Wb V
 sa:SA V K D g E Wn x N
 out:∃ a k d,Blk V t [.slice a k d] 105/\SumA V B t a k d ((accs E).take i).sum/\k<=2 * i + 1
section
variable {Wb V V':World} {B t g x i N:Nat} {K D:Nat->Prop} {E:Ents} {Wn:List Ents}
theorem TotI.rcd (h:TotI Wb B t K D g E Wn N x i V) (hr:Rec Wb.heap.size V V'):TotI Wb B t K D g E Wn N x i V':=by
 obtain ⟨a,k,d,h1,h2,h3⟩:=h.out
 exact ⟨chg_rcd h.chg hr (Nat.le_refl _),SA.rcd h.sa hr,a,k,d,rec_cel h1 hr,h2.cel hr.cel,h3⟩
theorem TotI.tick (h:TotI Wb B t K D g E Wn N x i V) (hg:g < B):TotI Wb B t K D g E Wn N (x + 1) i (tick g V x):=by
 obtain ⟨a,k,d,h1,h2,h3⟩:=h.out
 have hc:=chg_tick g x V
 have hne:t≠g:=fun e=>by
  obtain ⟨cs,k⟩:=h.sa.kv
  subst e
  exact absurd (h1.eq k).2 (by decide)
 exact ⟨h.chg.trans hc (fun b _ e=>.inl e),h.sa.tick,a,k,d,h1.chg hc hne,h2.off (fun b hb _ hl=>hc.same b hl (fun e=>by have e':b=g:=e; omega)),h3⟩
theorem TotI.rd (h:TotI Wb B t K D g E Wn N x i V):RdS Wb (fun b=>b=g\/b=t) K D g E Wn N V:=by
 refine ⟨h.chg,fun b hb cs k => ?_,_,h.sa⟩
 obtain ⟨a,k2,d,h1,_⟩:=h.out
 rcases hb with rfl | rfl
 ·obtain ⟨cs',k'⟩:=h.sa.kv
  exact absurd (k.eq k').2 (by decide)
 ·exact absurd (k.eq h1).2 (by decide)
end
theorem accs_rng {w:World} {K D:Nat->Prop} {g n N:Nat} {E:Ents} {W:List Ents} (h:SA w K D g E W n N) {i:Nat} {c:Int} (hc:(accs E)[i]? = some c):0<=c/\c < 18446744073709551616:=by
 have hm:=List.mem_of_getElem? hc
 obtain ⟨x,hx,rfl⟩:=List.mem_map.1 hm
 exact (coinB_rng (SA.octv h x (List.mem_filter.1 hx).1)).1
theorem total_any {w : World} {K D : Nat → Prop} {g bs x0 N : Nat} {E : Ents} {Wn : List Ents} (hS : SA w K D g E Wn x0 N) (hbs : Blk w bs [.pointer (some ⟨g, 0, none⟩)] 27) (hN : N ≤ 100000000) (hx : x0 + N ≤ 2000000000000000000) :
    Calls Tryz.prog 156 #[.func (.func 242) #[] #[.pointer (some ⟨bs, 0, none⟩)]] w fun e w' => ∃ a k d, e = .returned (.slice a k d) ∧ Rc.NatW w' w.heap.size a k d (accs E).sum ∧ k ≤ 2 * (accs E).length + 1 ∧ SA w' K D g E Wn (x0 + 1 + (accs E).length) N ∧ Chg (· = g) w w' := by
  have hglt : g < w.heap.size := hS.lt hS.top
  have hbg : bs ≠ g := fun e => by
    obtain ⟨cs, k⟩ := hS.kv
    subst e
    exact absurd (hbs.eq k).2 (by decide)
  have HS := hid3 hS
  have HBS := hid3 hbs
  clear hS hbs
  refine (callsIn_wide (n := 0)).1 ?_
  refine callsIn_of_wp_marks Tryz.func156 rfl trivial ?_ rfl
  simp only [Tryz.ntmps156, List.size_toArray, List.length_cons, List.length_nil, Nat.reduceAdd, Nat.reduceSub, Array.replicate_succ, Array.replicate_zero, List.push_toArray, List.append_toArray, List.nil_append, List.cons_append]
  gi_wp2_with (refine ⟨trivial, rfl, ?_⟩; gi_at_call 80; refine (callsIn_wide.2 (wOf (x := 0) (by decide) (by decide))).mono ?_; rintro e' w1 ⟨a0, k0, d0, rfl, N0, hk0, B1⟩)
  have A1 := below_alloc w1 (.cells #[.slice a0 k0 d0] 105)
  have T1 := blk_new w1 [.slice a0 k0 d0] 105
  have z1 : (w1.alloc (.cells #[.slice a0 k0 d0] 105)).heap.size = w1.heap.size + 1 := by simp
  have zw := B1.size
  have S1 := sum_at N0 zw _ A1
  obtain ⟨Wb, hWb⟩ : ∃ Wb, Hid (w1.alloc (.cells #[.slice a0 k0 d0] 105) = Wb) := ⟨_, rfl⟩
  rw [hWb.out] at A1 T1 z1 S1 ⊢
  have BB := joinB B1 A1
  have SB := HS.out.keep BB
  have bB := HBS.out.keep BB
  have hKt : ∀ b, K b → b < w.heap.size := fun b hb => HS.out.lt hb
  have IT := coins_itr (X := fun b => b = g ∨ b = w1.heap.size) SB bB (fun h => by have := HBS.out.lt; rcases h with h | h <;> omega) (fun b hb => hb.elim .inl (fun e => .inr (fun hk => by have := hKt b hk; omega))) (fun b hb => by rcases hb with h | h <;> omega) hN hx
  have I0 : TotI Wb w.heap.size w1.heap.size K D g E Wn N x0 0 Wb := ⟨Chg.refl _ _, SB, a0, k0, d0, T1, by simpa using S1, by omega⟩
  have HB := hid3 BB
  have HT := hid3 T1
  clear S1 SB bB T1 A1 B1 N0 BB
  refine rf_outerD IT (by rfl) (enters_of Tryz.func242 (by kernel_rfl) rfl) (fun i args n V V' h hc => h) (fun i args n V h => by obtain ⟨c, _, rfl⟩ := h; rfl)
    (fun V => TotI Wb w.heap.size w1.heap.size K D g E Wn N x0 0 V)
    (fun i V => TotI Wb w.heap.size w1.heap.size K D g E Wn N (x0 + 1 + i) i V)
    (fun i V => TotI Wb w.heap.size w1.heap.size K D g E Wn N (x0 + 1 + i + 1) i V)
    (fun c i V => False)
    (fun A B hx hr => hx.rcd hr) (fun i A B hx hr => hx.rcd hr) (fun i A B hx hr => hx.rcd hr) (fun c i A B hx hr => hx) (by omega)
    (fun V hv => by have q := hv.sa.cnt; exact ⟨q.1, q.2, hv.rd, hv.tick hglt⟩)
    (fun i V hv => by have q := hv.sa.cnt; exact ⟨q.1, q.2, hv.rd, fun _ => hv.tick hglt⟩)
    I0 ?_ ?_ ?_
  · rintro l2 i args V Wv hl hlV hrec hiN hT hb ⟨c, hc, rfl⟩
    simp
    gi_wp2
    refine ⟨Below.refl _ _, ?_⟩
    intro V2 W2 hT2 hb2 hAr2 hoth hsz3 hV2 r hrec2
    obtain ⟨a, k, d, h1, h2, h3⟩ := hT2.out
    have hcr := accs_rng hT2.sa hc
    have hbD := joinB hb2 (belowD W2)
    have P0 := h1.keep hbD
    have Q0 := h2.keep hbD
    have hil : (accs E).length ≤ N := Nat.le_trans (by unfold accs; rw [List.length_map]; exact List.length_filter_le _ _) hT2.sa.size
    have hws := hT2.chg.size
    clear hb hT hoth h1 h2
    gi_wp2
    refine iz_start (z := 4) (S := fun w' => Blk w' w1.heap.size [.slice a k d] 105) (by kernel_rfl) ?_
    refine iz_load 0 (some 8) (.slice a k d) 105 3 w1.heap.size 0 (by kernel_rfl) (by kernel_rfl) (by kernel_rfl) (by kernel_rfl) (by kernel_rfl) (fun w' h => ld_n h) (fun _ _ _ h => h) P0 ?_
    refine iz_take 1 (some 9) (.int .u64 c) (by kernel_rfl) (by kernel_rfl) (by kernel_rfl) (fun _ _ => by kernel_rfl) (fun _ _ _ h => h) P0 ?_
    refine iz_call 2 (some 10) 80 #[.int .u64 c] (by kernel_rfl) (by kernel_rfl) (by kernel_rfl) (wOf hcr.1 hcr.2) ?_
    rintro e' w3 ⟨a3, k3, d3, rfl, N3, hk3, B3⟩
    refine ⟨_, rfl, P0.keep B3, ?_⟩
    refine iz_call 3 (some 11) 182 #[.slice a k d, .slice a3 k3 d3] (by kernel_rfl) (by kernel_rfl) (by kernel_rfl) (wAdd (Q0.keep B3).w.o.a N3.o.a (by omega) (by omega)) ?_
    rintro e' w4 ⟨a4, k4, d4, rfl, N4, hk4, B4⟩
    have P4 := (P0.keep B3).keep B4
    refine ⟨_, rfl, P4, ?_⟩
    refine iz_last (w4.setCell ⟨w1.heap.size, 0, none⟩ (.slice a4 k4 d4)) (by kernel_rfl) (by kernel_rfl) (run_sn 3 11 (by kernel_rfl) (by kernel_rfl) (by kernel_rfl) P4) ?_
    refine iz_done (by kernel_rfl) ?_
    simp only [Act.put, List.setIfInBounds_toArray, List.set_cons_zero, List.set_cons_succ]
    have hC : Chg (· = w1.heap.size) w4 (w4.setCell ⟨w1.heap.size, 0, none⟩ (.slice a4 k4 d4)) := (Chg.refl (fun x => x = w1.heap.size) w4).cell (.inl (by rfl)) _
    have S6 := P4.setCell (i := 0) (.slice a4 k4 d4)
    have B34 := joinB (joinB (belowD W2) B3) B4
    have s3 := B3.size
    have s4 := B4.size
    have sD : W2.drew.heap.size = W2.heap.size := rfl
    have s2 := hb2.size
    have N5 : SumA w4 w.heap.size w1.heap.size a4 k4 d4 ((accs E).take (i + 1)).sum := by
      rw [List.take_add_one, hc, List.sum_append]
      simpa using (sum_of N4 (t := w1.heap.size) (by omega)).low (B' := w.heap.size) (by omega)
    refine ⟨(KeepsT.of B34).trans ⟨hC.size, fun k o hk h0 _ => (hC.same k (lt_of_block h0) (by omega)).trans h0⟩, ?_, ?_, a4, k4, d4, S6, N5.off (fun b _ hn hl => hC.same b hl hn), by omega⟩
    · exact ((hT2.chg.trans (Chg.of (F := fun _ => False) (joinB hb2 B34)) (fun _ _ h => h.elim))).trans hC (fun b _ h => .inr h)
    · have hq := (hT2.sa.keep (joinB hb2 B34)).chg hC (fun b e hk => by have e' : b = w1.heap.size := e; have := hKt b hk; omega) (fun b e cs kk => by
        have e' : b = w1.heap.size := e
        subst e'
        exact absurd (kk.eq P4).2 (by decide))
      rw [show x0 + 1 + (i + 1) = x0 + 1 + i + 1 by omega]
      exact hq
  · rintro D' W' hD hK hT
    obtain ⟨a, k, d, h1, h2, h3⟩ := hT.out
    have h1c := h1.cell (i := 0) rfl
    have R3 := Rec.put hK rfl hD (.deferred none)
    have hT3 := hT.rcd R3
    have HH2 := hid3 h2
    clear h2
    gi_wp2
    refine ⟨by simp, .inl ⟨_, _, rfl, run_takeDeferred hK, ?_⟩⟩
    refine ⟨_, results_tmp rfl _ _ _, a, k, d, rfl, ?_, h3, hT3.sa, ?_⟩
    · have := (HH2.out.cel R3.cel).w
      rwa [List.take_length] at this
    · exact (Chg.of (F := (· = g)) HB.out).trans hT3.chg (fun b hl e => e.elim id (fun e => by omega))
  · rintro D' c i W' hD hK hiN h
    exact h.elim
end Bk
end
section
namespace Bk
open Go.RowKit Go.Lib Pg Lim Kv
attribute [local go_sem] Oper.semAt_some
theorem coins_mk {w:World} {p:Option Addr}:Calls Tryz.prog 157 #[.pointer p] w fun e w'=>e=.returned (.func (.func 242) #[] #[.pointer (some ⟨w.heap.size,0,none⟩)])/\Blk w' w.heap.size [.pointer p] 27/\Below w.heap.size w w':=by
 have b1:=below_alloc w (.cells #[.pointer p] 27)
 have c1:=blk_new w [.pointer p] 27
 go_enter Tryz.func157,Tryz.ntmps157
 go_wp2
 go_ret
 exact ⟨rfl,c1,b1⟩
structure SumE (B:Nat) (w:World) (K:Nat->Prop) (g:Nat) (E:Ents) (W:List Ents) (n N:Nat) (e:Ending) (w':World):Prop where
 ex:∃ a k d,e=.returned (.slice a k d)/\Rc.NatW w' w.heap.size a k d (accs E).sum/\k<=2 * (accs E).length + 1/\Sx B w' K g E W (n + 1 + (accs E).length) N/\Chg (· = g) w w'
theorem sum_any {B:Nat} {w:World} {K:Nat->Prop} {g:Nat} {E:Ents} {W:List Ents} {n N:Nat} (h:Sx B w K g E W n N) (hN:N<=100000000) (hx:n + N<=2000000000000000000):Calls Tryz.prog 79 #[.pointer (some ⟨g,0,none⟩)] w (SumE B w K g E W n N):=by
 have HS:=hid3 h
 clear h
 go_enter Tryz.func79,Tryz.ntmps79
 go_wp2_with first
  | (go_at_call 157; go_must (refine coins_mk.mono ?_); rintro e w1 ⟨rfl,c1,B1⟩; have tT:=total_any (HS.out.sa.keep B1) c1 hN hx)
  | (go_at_call 156; go_must (refine tT.mono ?_); rintro e w2 ⟨a,k,d,rfl,N2,hk,S2,C2⟩; clear tT)
 go_ret
 exact ⟨a,k,d,rfl,N2.low B1.size,hk,⟨S2,Nat.le_trans HS.out.lo (Nat.le_trans B1.size C2.size),HS.out.kb⟩,(Chg.of B1).trans C2 (fun _ _ h=>h)⟩
end Bk
end
section
namespace Sd
open Go.RowKit Go.Lib Pg Lim Gl Kv Bk Pw
attribute [local go_sem] Oper.semAt_some
set_option linter.unusedSimpArgs false
set_option linter.unusedVariables false
theorem mkS {w:World} {k a b:Int} (ha:0<=a/\a < 18446744073709551616) (hE:Ky.mkE k a b=false):Calls Tryz.prog 10 #[.agg #[.int .i64 k,.int .u64 a,.int .u64 b]] w fun e w'=>∃ v,e=.returned (.tuple #[v,.int .i64 0])/\ByU w' v (Ky.mk k a b)/\Below w.heap.size w w':=by
 have u:=Ky.make_any (w:=w) (k:=k) (a:=a) (b:=b) ha.1 ha.2
 rw [hE] at u
 refine u.mono ?_
 rintro e w' ⟨v,rfl,O,B⟩
 exact ⟨v,rfl,ByU.of O,B⟩
theorem keyS {w:World} {k a b:Int} (ha:0<=a/\a < 18446744073709551616) (hE:Ky.mkE k a b=false):Calls Tryz.prog 149 #[.agg #[.int .i64 k,.int .u64 a,.int .u64 b]] w fun e w'=>∃ v,e=.returned v/\ByU w' v (Ky.mk k a b)/\Below w.heap.size w w':=by
 have BB:=Below.refl w.heap.size w
 refine gc_enter (n:=11) Tryz.func149 rfl ?_
 refine gc_seq (gc_reg (ta 1 [iI k,iU a,iU b] 35 (pg) ?_))
 intro v1 g2 Xg2 hg2 B
 replace BB:=joinB BB B
 refine t 2 (.slice none 0 0) (gl_nil (ge_then (gc_seq (gc_reg (tlr 6 [iI k,iU a,iU b] Xg2 0 (tc 7 10 #[.agg #[iI k,iU a,iU b]] (mkS ha hE) ?_))))))
 rintro _ v3 ⟨v0,rfl,U0,B⟩
 refine ⟨_,rfl,?_⟩
 replace BB:=joinB BB B
 replace Xg2:=Xg2.keep B
 refine t 5 (.tuple #[v0,iI 0]) (t 8 (v0) (t 9 (iI 0) (t 3 (v0) (t 4 (iI 0) (gl_nil (ge_then (gc_seq (gc_reg (t 10 (v0) (t 2 (v0) (gl_nil (ge_then (gc_fr [(2,v0)] (gc_ret (ge_ret (v0) (rs1 2 (by kernel_rfl) (by kernel_rfl)) ?_)))))))))))))))
 exact ⟨_,rfl,U0,BB⟩
section
variable {B:Nat} {w:World} {K:Nat->Prop} {g:Nat} {E:Ents} {W:List Ents} {n N:Nat} {kv:Value} {k l:List Int}
theorem xhas (h:Sx B w K g E W n N) (hk:ByU w kv k) (hn:n<=4000000000000000000) (hN:N<=100000000):Calls Tryz.prog 148 #[pg g,kv] w (SxE B w K g E W (n + 1) N (.bool (Kv.look E k).isSome)):=by
 refine (shas h.sa (h.bk hk) hn hN).mono ?_
 rintro e w' ⟨rfl,S,C⟩
 exact ⟨rfl,K,⟨S,Nat.le_trans h.lo C.size,h.kb⟩,fun _ h=>.inl h,C⟩
theorem xgetY (h:Sx B w K g E W n N) (hk:ByU w kv k) (hl:Kv.look E k=some l) (hn:n<=4000000000000000000) (hN:N<=100000000):Calls Tryz.prog 187 #[pg g,kv] w fun e w'=>∃ v,e=.returned (.tuple #[v,.bool true])/\ByU w' v l/\Sx B w' K g E W (n + 1) N/\Chg K w w':=by
 refine (xget h hk hn hN).mono ?_
 rintro e w' ⟨v,rfl,U,S,C⟩
 rw [hl] at U ⊢
 exact ⟨v,rfl,U,S,C⟩
theorem xgetN (h:Sx B w K g E W n N) (hk:ByU w kv k) (hl:Kv.look E k=none) (hn:n<=4000000000000000000) (hN:N<=100000000):Calls Tryz.prog 187 #[pg g,kv] w fun e w'=>∃ v,e=.returned (.tuple #[v,.bool false])/\ByU w' v []/\Sx B w' K g E W (n + 1) N/\Chg K w w':=by
 refine (xget h hk hn hN).mono ?_
 rintro e w' ⟨v,rfl,U,S,C⟩
 rw [hl] at U ⊢
 exact ⟨v,rfl,U,S,C⟩
end
theorem Dfs.op {b:Nat} {Ds:List Nat} {w w':World} {K D:Nat->Prop} {g n N:Nat} {E:Ents} {W:List Ents} (h:Dfs b Ds w) (S:SA w K D g E W n N) (hc:Chg K w w'):Dfs b Ds w':=h.chg hc (fun x hx=>.inr ((S.kind x hx).imp fun _ h=>h.imp fun _ h=>h.1))
structure RlE (B:Nat) (w:World) (K:Nat->Prop) (g:Nat) (E:Ents) (n N c:Nat) (r:Value) (e:Ending) (w':World):Prop where
 ret:e=.returned r
 ex:∃ K' n',Sx B w' K' g E [] n' N/\n'<=n + c/\(∀ b,K' b->K b\/w.heap.size<=b)/\Chg K w w'
theorem At.rle {B:Nat} {w V V':World} {K K':Nat->Prop} {g:Nat} {E:Ents} {n n' N c:Nat} {r:Value} (A:Bk.At B w K V K' g E [] n' N) (R:Rec w.heap.size V V') (hc:n'<=n + c):RlE B w K g E n N c r (.returned r) V':=⟨rfl,K',n',sx_rcd A.sx R,hc,A.km,chg_rcd A.cc R (Nat.le_refl _)⟩
theorem liesS {B:Nat} {w:World} {K:Nat->Prop} {g:Nat} {E:Ents} {n N:Nat} {k a b:Int} (h:Sx B w K g E [] n N) (ha:0<=a/\a < 18446744073709551616) (hE:Ky.mkE k a b=false) (hn:n<=1000000) (hN:N<=1000):Calls Tryz.prog 73 #[pg g,.agg #[.int .i64 k,.int .u64 a,.int .u64 b]] w (SxE B w K g E [] (n + 1) N (.bool (Kv.look E (Ky.mk k a b)).isSome)):=by
 have A:=h.at
 refine gc_enter (n:=9) Tryz.func73 rfl ?_
 refine gc_seq (gc_reg (ta 3 [iI k,iU a,iU b] 35 (pg) ?_))
 intro v1 g2 Xg2 hg2 B
 obtain ⟨zg2,nXg2,A⟩:=A.al hg2 B
 refine t 4 (bF) (gl_nil (ge_then (gc_seq (gc_reg (t 5 (pg g) (tlr 6 [iI k,iU a,iU b] Xg2 0 (tc 7 149 #[.agg #[iI k,iU a,iU b]] (keyS ha hE) ?_)))))))
 rintro _ v5 ⟨kv4,rfl,U3,B⟩
 refine ⟨_,rfl,?_⟩
 replace A:=A.keep B
 replace Xg2:=Xg2.keep B
 skip
 refine tc 8 148 #[pg g,kv4] (xhas A.sx U3 (by omega) (by omega)) ?_
 rintro _ v7 ⟨rfl,K6,S,hK,hC⟩
 refine ⟨_,rfl,?_⟩
 obtain ⟨Xg2,nXg2⟩:=bk_op Xg2 nXg2 hK hC
 replace U3:=A.byu U3 hC
 replace A:=A.op S hK hC
 clear U3
 refine t 4 (.bool (Kv.look E (Ky.mk k a b)).isSome) (gl_nil (ge_then (gc_ret (ge_ret (.bool (Kv.look E (Ky.mk k a b)).isSome) (rs1 4 (by kernel_rfl) (by kernel_rfl)) ?_))))
 exact ⟨rfl,_,A.sx,A.km,A.cc⟩
def PV:List Int:=Rc.thr (Rc.pnx (fun o=>([1,1,1,0,0,0,0,0,0,16]:List Int).getD o 0)) [(0,0),(0,1),(0,2),(0,3),(0,4),(0,5),(0,6),(0,7),(0,8),(0,9)] []
def CV:List Int:=Rc.thr (Rc.pnx (fun o=>([1,1]:List Int).getD o 0)) [(0,0),(0,1)] []
theorem parPV {w:World} {v:Value} (h:ByU w v PV):Calls Tryz.prog 124 #[v] w fun e w'=>e=.returned (.tuple #[.agg #[.int .u64 1,.int .u64 1,.int .u64 1,.int .u64 0,.int .u64 0,.int .u64 0,.int .u64 0,.int .u64 0,.int .u64 0,.int .u64 16],.int .i64 0])/\Below w.heap.size w w':=by
 obtain ⟨b,ao,c,rfl,h2⟩:=bya h.byt
 have u:=Rc.oParams h2 (by decide +kernel)
 rw [show Rc.outX (Rc.stParams PV) 0=1 by decide +kernel,show Rc.outX (Rc.stParams PV) 1=1 by decide +kernel,show Rc.outX (Rc.stParams PV) 2=1 by decide +kernel,show Rc.outX (Rc.stParams PV) 3=0 by decide +kernel,show Rc.outX (Rc.stParams PV) 4=0 by decide +kernel,show Rc.outX (Rc.stParams PV) 5=0 by decide +kernel,show Rc.outX (Rc.stParams PV) 6=0 by decide +kernel,show Rc.outX (Rc.stParams PV) 7=0 by decide +kernel,show Rc.outX (Rc.stParams PV) 8=0 by decide +kernel,show Rc.outX (Rc.stParams PV) 9=16 by decide +kernel,show Rc.outR (Rc.stParams PV)=0 by decide +kernel] at u
 exact u
theorem chnCV {w:World} {v:Value} (h:ByU w v CV):Calls Tryz.prog 126 #[v] w fun e w'=>e=.returned (.tuple #[.agg #[.int .u64 1,.int .u64 1],.int .i64 0])/\Below w.heap.size w w':=by
 obtain ⟨b,ao,c,rfl,h2⟩:=bya h.byt
 have u:=Rc.oChain h2 (by decide +kernel)
 rw [show Rc.outX (Rc.stChain CV) 0=1 by decide +kernel,show Rc.outX (Rc.stChain CV) 1=1 by decide +kernel,show Rc.outR (Rc.stChain CV)=0 by decide +kernel] at u
 exact u
theorem recParams {B:Nat} {w:World} {K:Nat->Prop} {g:Nat} {E:Ents} {n N:Nat}  (h:Sx B w K g E [] n N) (hl:Kv.look E (Ky.mk 1 0 0)=some PV) (hn:n<=1000000) (hN:N<=1000):Calls Tryz.prog 150 #[pg g,.agg #[.int .i64 1,.int .u64 0,.int .u64 0],.func (.func 124) #[] #[]] w (SxE B w K g E [] (n + 1) N (.tuple #[.agg #[.int .u64 1,.int .u64 1,.int .u64 1,.int .u64 0,.int .u64 0,.int .u64 0,.int .u64 0,.int .u64 0,.int .u64 0,.int .u64 16],.bool true])):=by
 have A:=h.at
 refine gc_enter (n:=27) Tryz.func150 rfl ?_
 refine gc_seq (gc_reg (ta 4 [iI 1,iU 0,iU 0] 35 (pg) ?_))
 intro v1 g2 Xg2 hg2 B
 obtain ⟨zg2,nXg2,A⟩:=A.al hg2 B
 have lXg2:=Xg2.lt
 refine ta 6 [iU 0,iU 0,iU 0,iU 0,iU 0,iU 0,iU 0,iU 0,iU 0,iU 0] 24 (pg) ?_
 intro v3 g4 Xg4 hg4 B
 obtain ⟨zg4,nXg4,A⟩:=A.al hg4 B
 replace Xg2:=Xg2.keep B
 refine t 7 (bF) (gl_nil (ge_then (gc_seq (gc_reg (t 13 (pg g) (tlr 14 [iI 1,iU 0,iU 0] Xg2 0 (tc 15 149 #[.agg #[iI 1,iU 0,iU 0]] (keyS ⟨by decide,by decide⟩ (by kernel_rfl)) ?_)))))))
 rintro _ v7 ⟨kv6,rfl,U5,B⟩
 refine ⟨_,rfl,?_⟩
 replace A:=A.keep B
 replace Xg2:=Xg2.keep B
 replace Xg4:=Xg4.keep B
 refine tc 16 187 #[pg g,kv6] (xgetY A.sx U5 hl (by omega) (by omega)) ?_
 rintro _ v10 ⟨gv8,rfl,U9,S,hC⟩
 refine ⟨_,rfl,?_⟩
 replace Xg2:=Xg2.chg hC nXg2
 replace Xg4:=Xg4.chg hC nXg4
 replace U5:=A.byu U5 hC
 replace A:=A.op S (fun _ h=>.inl h) hC
 clear U5
 refine t 12 (.tuple #[gv8,bT]) (t 17 (gv8) (t 18 (bT) (t 8 (gv8) (t 9 (bT) (gl_nil (ge_then (gc_fr [(2,.func (.func 124) #[] #[]),(6,pg g4),(7,bF),(8,gv8),(9,bT)] (gc_seq (gc_reg (t 20 (.func (.func 124) #[] #[]) (t 21 (gv8) (tc 22 124 #[gv8] (parPV U9) ?_))))))))))))
 rintro _ v11 ⟨rfl,B⟩
 refine ⟨_,rfl,?_⟩
 replace A:=A.keep B
 replace Xg2:=Xg2.keep B
 replace Xg4:=Xg4.keep B
 replace U9:=byu_keep U9 B
 clear U9
 refine t 19 (.tuple #[.agg #[iU 1,iU 1,iU 1,iU 0,iU 0,iU 0,iU 0,iU 0,iU 0,iU 16],iI 0]) (t 23 (.agg #[iU 1,iU 1,iU 1,iU 0,iU 0,iU 0,iU 0,iU 0,iU 0,iU 16]) (t 24 (iI 0) ?_))
 have lXg2:=Xg2.lt
 have lXg4:=Xg4.lt
 refine ta 10 [iU 0,iU 0,iU 0,iU 0,iU 0,iU 0,iU 0,iU 0,iU 0,iU 0] 24 (pg) ?_
 intro v12 g13 Xg13 hg13 B
 obtain ⟨zg13,nXg13,A⟩:=A.al hg13 B
 replace Xg2:=Xg2.keep B
 replace Xg4:=Xg4.keep B
 refine ts Xg13 0 (.agg #[iU 1,iU 1,iU 1,iU 0,iU 0,iU 0,iU 0,iU 0,iU 0,iU 16]) [iU 1,iU 1,iU 1,iU 0,iU 0,iU 0,iU 0,iU 0,iU 0,iU 16] [iU 1,iU 1,iU 1,iU 0,iU 0,iU 0,iU 0,iU 0,iU 0,iU 16] ?_
 intro v14 Y C
 replace A:=Bk.At.cell A Xg13 C zg13 nXg13 (by decide)
 replace Xg2:=Xg2.chg C (show g2≠g13 by omega)
 replace Xg4:=Xg4.chg C (show g4≠g13 by omega)
 have Xg13:=Y
 refine t 11 (iI 0) (gl_nil (ge_then (gc_seq (gc_reg (tlr 25 [iU 1,iU 1,iU 1,iU 0,iU 0,iU 0,iU 0,iU 0,iU 0,iU 16] Xg13 0 (t 26 (bT) (ts Xg4 0 (.agg #[iU 1,iU 1,iU 1,iU 0,iU 0,iU 0,iU 0,iU 0,iU 0,iU 16]) [iU 1,iU 1,iU 1,iU 0,iU 0,iU 0,iU 0,iU 0,iU 0,iU 16] [iU 1,iU 1,iU 1,iU 0,iU 0,iU 0,iU 0,iU 0,iU 0,iU 16] ?_)))))))
 intro v15 Y C
 replace A:=Bk.At.cell A Xg4 C zg4 nXg4 (by decide)
 replace Xg2:=Xg2.chg C (show g2≠g4 by omega)
 replace Xg13:=Xg13.chg C (show g13≠g4 by omega)
 have Xg4:=Y
 refine t 7 (bT) (gl_nil (ge_then (gc_ret (ge_ret (.tuple #[.agg #[iU 1,iU 1,iU 1,iU 0,iU 0,iU 0,iU 0,iU 0,iU 0,iU 16],bT]) (rsct 6 7 (T:=24) (by kernel_rfl) (by kernel_rfl) (by kernel_rfl) (lr Xg4 0)) ?_))))
 exact ⟨rfl,_,A.sx,A.km,A.cc⟩
theorem paramsS {B:Nat} {w:World} {K:Nat->Prop} {g:Nat} {E:Ents} {n N:Nat}  (h:Sx B w K g E [] n N) (hl:Kv.look E (Ky.mk 1 0 0)=some PV) (hn:n<=1000000) (hN:N<=1000):Calls Tryz.prog 74 #[pg g] w (SxE B w K g E [] (n + 1) N (.agg #[.int .u64 1,.int .u64 1,.int .u64 1,.int .u64 0,.int .u64 0,.int .u64 0,.int .u64 0,.int .u64 0,.int .u64 0,.int .u64 16])):=by
 have A:=h.at
 refine gc_enter (n:=12) Tryz.func74 rfl ?_
 refine gc_seq (gc_reg (ta 2 [iU 0,iU 0,iU 0,iU 0,iU 0,iU 0,iU 0,iU 0,iU 0,iU 0] 24 (pg) ?_))
 intro v1 g2 Xg2 hg2 B
 obtain ⟨zg2,nXg2,A⟩:=A.al hg2 B
 refine gl_nil (ge_then (gc_seq (gc_reg (t 6 (pg g) (t 7 (.agg #[iI 1,iU 0,iU 0]) (tc 8 150 #[pg g,.agg #[iI 1,iU 0,iU 0],.func (.func 124) #[] #[]] (recParams A.sx hl (by omega) (by omega)) ?_))))))
 rintro _ v4 ⟨rfl,K3,S,hK,hC⟩
 refine ⟨_,rfl,?_⟩
 obtain ⟨Xg2,nXg2⟩:=bk_op Xg2 nXg2 hK hC
 replace A:=A.op S hK hC
 refine t 5 (.tuple #[.agg #[iU 1,iU 1,iU 1,iU 0,iU 0,iU 0,iU 0,iU 0,iU 0,iU 16],bT]) (t 9 (.agg #[iU 1,iU 1,iU 1,iU 0,iU 0,iU 0,iU 0,iU 0,iU 0,iU 16]) (t 10 (bT) ?_))
 have lXg2:=Xg2.lt
 refine ta 3 [iU 0,iU 0,iU 0,iU 0,iU 0,iU 0,iU 0,iU 0,iU 0,iU 0] 24 (pg) ?_
 intro v5 g6 Xg6 hg6 B
 obtain ⟨zg6,nXg6,A⟩:=A.al hg6 B
 replace Xg2:=Xg2.keep B
 refine ts Xg6 0 (.agg #[iU 1,iU 1,iU 1,iU 0,iU 0,iU 0,iU 0,iU 0,iU 0,iU 16]) [iU 1,iU 1,iU 1,iU 0,iU 0,iU 0,iU 0,iU 0,iU 0,iU 16] [iU 1,iU 1,iU 1,iU 0,iU 0,iU 0,iU 0,iU 0,iU 0,iU 16] ?_
 intro v7 Y C
 replace A:=Bk.At.cell A Xg6 C zg6 nXg6 (by decide)
 replace Xg2:=Xg2.chg C (show g2≠g6 by omega)
 have Xg6:=Y
 refine t 4 (bT) (gl_nil (ge_then (gc_seq (gc_reg (tlr 11 [iU 1,iU 1,iU 1,iU 0,iU 0,iU 0,iU 0,iU 0,iU 0,iU 16] Xg6 0 (ts Xg2 0 (.agg #[iU 1,iU 1,iU 1,iU 0,iU 0,iU 0,iU 0,iU 0,iU 0,iU 16]) [iU 1,iU 1,iU 1,iU 0,iU 0,iU 0,iU 0,iU 0,iU 0,iU 16] [iU 1,iU 1,iU 1,iU 0,iU 0,iU 0,iU 0,iU 0,iU 0,iU 16] ?_))))))
 intro v8 Y C
 replace A:=Bk.At.cell A Xg2 C zg2 nXg2 (by decide)
 replace Xg6:=Xg6.chg C (show g6≠g2 by omega)
 have Xg2:=Y
 refine gl_nil (ge_then (gc_ret (ge_ret (.agg #[iU 1,iU 1,iU 1,iU 0,iU 0,iU 0,iU 0,iU 0,iU 0,iU 16]) (rsc 2 (T:=24) (by kernel_rfl) (by kernel_rfl) (lr Xg2 0)) ?_)))
 exact ⟨rfl,_,A.sx,A.km,A.cc⟩
theorem recChain {B:Nat} {w:World} {K:Nat->Prop} {g:Nat} {E:Ents} {n N:Nat}  (h:Sx B w K g E [] n N) (hl:Kv.look E (Ky.mk 2 0 0)=some CV) (hn:n<=1000000) (hN:N<=1000):Calls Tryz.prog 158 #[pg g,.agg #[.int .i64 2,.int .u64 0,.int .u64 0],.func (.func 126) #[] #[]] w (SxE B w K g E [] (n + 1) N (.tuple #[.agg #[.int .u64 1,.int .u64 1],.bool true])):=by
 have A:=h.at
 refine gc_enter (n:=27) Tryz.func158 rfl ?_
 refine gc_seq (gc_reg (ta 4 [iI 2,iU 0,iU 0] 35 (pg) ?_))
 intro v1 g2 Xg2 hg2 B
 obtain ⟨zg2,nXg2,A⟩:=A.al hg2 B
 have lXg2:=Xg2.lt
 refine ta 6 [iU 0,iU 0] 44 (pg) ?_
 intro v3 g4 Xg4 hg4 B
 obtain ⟨zg4,nXg4,A⟩:=A.al hg4 B
 replace Xg2:=Xg2.keep B
 refine t 7 (bF) (gl_nil (ge_then (gc_seq (gc_reg (t 13 (pg g) (tlr 14 [iI 2,iU 0,iU 0] Xg2 0 (tc 15 149 #[.agg #[iI 2,iU 0,iU 0]] (keyS ⟨by decide,by decide⟩ (by kernel_rfl)) ?_)))))))
 rintro _ v7 ⟨kv6,rfl,U5,B⟩
 refine ⟨_,rfl,?_⟩
 replace A:=A.keep B
 replace Xg2:=Xg2.keep B
 replace Xg4:=Xg4.keep B
 refine tc 16 187 #[pg g,kv6] (xgetY A.sx U5 hl (by omega) (by omega)) ?_
 rintro _ v10 ⟨gv8,rfl,U9,S,hC⟩
 refine ⟨_,rfl,?_⟩
 replace Xg2:=Xg2.chg hC nXg2
 replace Xg4:=Xg4.chg hC nXg4
 replace U5:=A.byu U5 hC
 replace A:=A.op S (fun _ h=>.inl h) hC
 clear U5
 refine t 12 (.tuple #[gv8,bT]) (t 17 (gv8) (t 18 (bT) (t 8 (gv8) (t 9 (bT) (gl_nil (ge_then (gc_fr [(2,.func (.func 126) #[] #[]),(6,pg g4),(7,bF),(8,gv8),(9,bT)] (gc_seq (gc_reg (t 20 (.func (.func 126) #[] #[]) (t 21 (gv8) (tc 22 126 #[gv8] (chnCV U9) ?_))))))))))))
 rintro _ v11 ⟨rfl,B⟩
 refine ⟨_,rfl,?_⟩
 replace A:=A.keep B
 replace Xg2:=Xg2.keep B
 replace Xg4:=Xg4.keep B
 replace U9:=byu_keep U9 B
 clear U9
 refine t 19 (.tuple #[.agg #[iU 1,iU 1],iI 0]) (t 23 (.agg #[iU 1,iU 1]) (t 24 (iI 0) ?_))
 have lXg2:=Xg2.lt
 have lXg4:=Xg4.lt
 refine ta 10 [iU 0,iU 0] 44 (pg) ?_
 intro v12 g13 Xg13 hg13 B
 obtain ⟨zg13,nXg13,A⟩:=A.al hg13 B
 replace Xg2:=Xg2.keep B
 replace Xg4:=Xg4.keep B
 refine ts Xg13 0 (.agg #[iU 1,iU 1]) [iU 1,iU 1] [iU 1,iU 1] ?_
 intro v14 Y C
 replace A:=Bk.At.cell A Xg13 C zg13 nXg13 (by decide)
 replace Xg2:=Xg2.chg C (show g2≠g13 by omega)
 replace Xg4:=Xg4.chg C (show g4≠g13 by omega)
 have Xg13:=Y
 refine t 11 (iI 0) (gl_nil (ge_then (gc_seq (gc_reg (tlr 25 [iU 1,iU 1] Xg13 0 (t 26 (bT) (ts Xg4 0 (.agg #[iU 1,iU 1]) [iU 1,iU 1] [iU 1,iU 1] ?_)))))))
 intro v15 Y C
 replace A:=Bk.At.cell A Xg4 C zg4 nXg4 (by decide)
 replace Xg2:=Xg2.chg C (show g2≠g4 by omega)
 replace Xg13:=Xg13.chg C (show g13≠g4 by omega)
 have Xg4:=Y
 refine t 7 (bT) (gl_nil (ge_then (gc_ret (ge_ret (.tuple #[.agg #[iU 1,iU 1],bT]) (rsct 6 7 (T:=44) (by kernel_rfl) (by kernel_rfl) (by kernel_rfl) (lr Xg4 0)) ?_))))
 exact ⟨rfl,_,A.sx,A.km,A.cc⟩
theorem chainS {B:Nat} {w:World} {K:Nat->Prop} {g:Nat} {E:Ents} {n N:Nat}  (h:Sx B w K g E [] n N) (hl:Kv.look E (Ky.mk 2 0 0)=some CV) (hn:n<=1000000) (hN:N<=1000):Calls Tryz.prog 81 #[pg g] w (SxE B w K g E [] (n + 1) N (.agg #[.int .u64 1,.int .u64 1])):=by
 have A:=h.at
 refine gc_enter (n:=12) Tryz.func81 rfl ?_
 refine gc_seq (gc_reg (ta 2 [iU 0,iU 0] 44 (pg) ?_))
 intro v1 g2 Xg2 hg2 B
 obtain ⟨zg2,nXg2,A⟩:=A.al hg2 B
 refine gl_nil (ge_then (gc_seq (gc_reg (t 6 (pg g) (t 7 (.agg #[iI 2,iU 0,iU 0]) (tc 8 158 #[pg g,.agg #[iI 2,iU 0,iU 0],.func (.func 126) #[] #[]] (recChain A.sx hl (by omega) (by omega)) ?_))))))
 rintro _ v4 ⟨rfl,K3,S,hK,hC⟩
 refine ⟨_,rfl,?_⟩
 obtain ⟨Xg2,nXg2⟩:=bk_op Xg2 nXg2 hK hC
 replace A:=A.op S hK hC
 refine t 5 (.tuple #[.agg #[iU 1,iU 1],bT]) (t 9 (.agg #[iU 1,iU 1]) (t 10 (bT) ?_))
 have lXg2:=Xg2.lt
 refine ta 3 [iU 0,iU 0] 44 (pg) ?_
 intro v5 g6 Xg6 hg6 B
 obtain ⟨zg6,nXg6,A⟩:=A.al hg6 B
 replace Xg2:=Xg2.keep B
 refine ts Xg6 0 (.agg #[iU 1,iU 1]) [iU 1,iU 1] [iU 1,iU 1] ?_
 intro v7 Y C
 replace A:=Bk.At.cell A Xg6 C zg6 nXg6 (by decide)
 replace Xg2:=Xg2.chg C (show g2≠g6 by omega)
 have Xg6:=Y
 refine t 4 (bT) (gl_nil (ge_then (gc_seq (gc_reg (tlr 11 [iU 1,iU 1] Xg6 0 (ts Xg2 0 (.agg #[iU 1,iU 1]) [iU 1,iU 1] [iU 1,iU 1] ?_))))))
 intro v8 Y C
 replace A:=Bk.At.cell A Xg2 C zg2 nXg2 (by decide)
 replace Xg6:=Xg6.chg C (show g6≠g2 by omega)
 have Xg2:=Y
 refine gl_nil (ge_then (gc_ret (ge_ret (.agg #[iU 1,iU 1]) (rsc 2 (T:=44) (by kernel_rfl) (by kernel_rfl) (lr Xg2 0)) ?_)))
 exact ⟨rfl,_,A.sx,A.km,A.cc⟩
theorem among_mk {w:World} {gf:Nat} {lb:Array Value} {k:Int}:Calls Tryz.prog 164 #[.func (.func gf) #[] lb,.int .i64 k] w fun e w'=>∃ ba bk,e=.returned (.func (.func 247) #[] #[pg ba,pg bk])/\w.heap.size<=ba/\Blk w' ba [.func (.func gf) #[] lb] 121/\Blk w' bk [.int .i64 k] 3/\Below w.heap.size w w':=by
 have BB:=Below.refl w.heap.size w
 refine gc_enter (n:=6) Tryz.func164 rfl ?_
 refine gc_seq (gc_reg (ta 2 [.func (.func gf) #[] lb] 121 (pg) ?_))
 intro v1 g2 Xg2 hg2 B
 replace BB:=joinB BB B
 refine ta 3 [iI k] 3 (pg) ?_
 intro v3 g4 Xg4 hg4 B
 replace BB:=joinB BB B
 replace Xg2:=Xg2.keep B
 refine t 4 (.nilFunc) (gl_nil (ge_then (gc_seq (gc_reg (t 5 (.func (.func 247) #[] #[pg g2,pg g4]) (t 4 (.func (.func 247) #[] #[pg g2,pg g4]) (gl_nil (ge_then (gc_ret (ge_ret (.func (.func 247) #[] #[pg g2,pg g4]) (rs1 4 (by kernel_rfl) (by kernel_rfl)) ?_))))))))))
 exact ⟨_,_,rfl,hg2,Xg2,Xg4,BB⟩
theorem chgB {F:Nat->Prop} {w w1 w2:World} (h:Chg F w w1) (b:Below w1.heap.size w1 w2):Chg F w w2:=h.trans (Chg.of (F:=fun _=>False) b) (fun _ _ h=>h.elim)
theorem nk_new {B:Nat} {w:World} {K:Nat->Prop} {g:Nat} {E:Ents} {W:List Ents} {n N x:Nat} (h:Sx B w K g E W n N) (hx:w.heap.size<=x):¬ K x:=fun hk=>by have:=h.sa.lt hk; omega
theorem among_run {B:Nat} {w:World} {K:Nat->Prop} {g:Nat} {E:Ents} {n N ba bk l gf:Nat} {lb:Array Value} (h:Sx B w K g E [] n N) (M:Mt B K g E [] n N 1 w (.func (.func gf) #[] lb)) (Xa:Blk w ba [.func (.func gf) #[] lb] 121) (na:¬ K ba):Calls Tryz.prog 247 #[.func (.yield l) #[] #[],pg ba,pg bk] w fun e w'=>(∃ u,e=.returned u)/\Sx B w' K g E [] (n + 1) N/\Chg (· = g) w w':=by
 have A:=h.at
 have DF:=Dfs.nil w.heap.size w
 refine gc_enterM (n:=27) Tryz.func247 rfl (by kernel_rfl) (by kernel_rfl) ?_
 have CG:Chg (· = g) w w:=Chg.refl _ _
 have nXa:¬ K ba:=na
 refine gc_seq (gc_reg ?_)
 have lXa:=Xa.lt
 refine ta 3 [.func (.yield l) #[] #[]] 348 (pg) ?_
 intro v1 g2 Xg2 hg2 B
 obtain ⟨zg2,nXg2,A⟩:=A.al hg2 B
 replace DF:=DF.keep B
 replace Xa:=Xa.keep B
 replace M:=M.keep B
 replace CG:=chgB CG B
 refine gl_nil (ge_then (gc_seq (gc_reg (tl 8 (.func (.func gf) #[] lb) Xa 0 (gl_nil (ge_then (gc_block (gc_mt M (A.lt A.sx.sa.top) ?_))))))))
 intro D3 v4 hD3 kD3 S C
 have hC:=C.mono (F':=K) (fun y _ e=>by have e':y=g:=e; rw [e']; exact A.sx.sa.top)
 have hK:∀ b,K b->K b\/v1.heap.size<=b:=fun _ h=>.inl h
 have Cg:=C
 have DF2:=DF.op A.sx.sa hC
 replace DF:=DF.add hD3 A.size DF2 kD3
 clear DF2 hD3 kD3
 clear M
 replace CG:=CG.trans Cg (fun _ _ h=>h)
 clear Cg
 obtain ⟨Xa,nXa⟩:=bk_op Xa nXa hK hC
 obtain ⟨Xg2,nXg2⟩:=bk_op Xg2 nXg2 hK hC
 replace A:=A.op S hK hC
 refine ge_bn (ge_endD (b:=w.heap.size) [D3] DF (by kernel_rfl) ?_)
 intro Vz Rz
 exact ⟨⟨_,rfl⟩,sx_rcd A.sx Rz,chg_rcd CG Rz (Nat.le_refl _)⟩
theorem laid_mt {B:Nat} {w:World} {K:Nat->Prop} {g:Nat} {E:Ents} {n N:Nat} {k m0:Int} (h:Sx B w K g E [] n N) (hn:n<=1000000) (hN:N<=1000) (hOf:∀ w,Calls Tryz.prog 163 #[.int .i64 k] w fun e w'=>∃ v,e=.returned (.tuple #[v,.int .i64 0])/\OB w' (w.heap.size <= ·) v [m0]/\Below w.heap.size w w') (h0:E.filter (fun x=>decide ([m0] <+: x.1))=[]):Calls Tryz.prog 86 #[pg g,.int .i64 k] w fun e w'=>∃ gf lb,e=.returned (.func (.func gf) #[] lb)/\Mt B K g E [] n N 1 w' (.func (.func gf) #[] lb)/\Below w.heap.size w w':=by
 have S0:=h
 have BB:=Below.refl w.heap.size w
 refine gc_enter (n:=17) Tryz.func86 rfl ?_
 refine gc_seq (gc_reg (t 4 (.nilFunc) (gl_nil (ge_then (gc_seq (gc_reg (t 8 (iI k) (tc 9 163 #[iI k] (hOf _) ?_))))))))
 rintro _ v1 ⟨ov,rfl,O,B⟩
 refine ⟨_,rfl,?_⟩
 replace S0:=S0.keep B
 replace BB:=joinB BB B
 refine t 7 (.tuple #[ov,iI 0]) (t 10 (ov) (t 11 (iI 0) (t 5 (ov) (t 6 (iI 0) (gl_nil (ge_then (gc_seq (gc_reg (t 12 (pg g) (t 13 (ov) (tc 14 165 #[pg g,ov] (mt_prefix S0 (by omega) (by omega) O.by (by simp) h0) ?_)))))))))))
 rintro _ v2 ⟨gf,lb,rfl,M,B⟩
 refine ⟨_,rfl,?_⟩
 replace S0:=S0.keep B
 replace BB:=joinB BB B
 replace O:=O.keep B
 clear O
 refine t 15 (iI k) (tc 16 164 #[.func (.func gf) #[] lb,iI k] (among_mk) ?_)
 rintro _ v3 ⟨ba,bk,rfl,hba,Xa,Xk,B⟩
 refine ⟨_,rfl,?_⟩
 have na:¬ K ba:=nk_new S0 hba
 replace S0:=S0.keep B
 replace BB:=joinB BB B
 replace M:=M.keep B
 refine t 4 (.func (.func 247) #[] #[pg ba,pg bk]) (gl_nil (ge_then (gc_fr [(4,.func (.func 247) #[] #[pg ba,pg bk])] (gc_ret (ge_ret (.func (.func 247) #[] #[pg ba,pg bk]) (rs1 4 (by kernel_rfl) (by kernel_rfl)) ?_)))))
 exact ⟨_,_,rfl,⟨_,_,rfl,enters_of Tryz.func247 (by kernel_rfl) rfl,fun V l hb=>among_run (S0.keep hb) (M.keep hb) (Xa.keep hb) na⟩,BB⟩
theorem pmk_Account {w:World} {gf rf:Nat} {lb:Array Value}:Calls Tryz.prog 151 #[.func (.func gf) #[] lb,.func (.func rf) #[] #[]] w fun e w'=>∃ ba bk,e=.returned (.func (.func 231) #[] #[pg ba,pg bk])/\w.heap.size<=ba/\Blk w' ba [.func (.func gf) #[] lb] 142/\Below w.heap.size w w':=by
 have BB:=Below.refl w.heap.size w
 refine gc_enter (n:=6) Tryz.func151 rfl ?_
 refine gc_seq (gc_reg (ta 2 [.func (.func gf) #[] lb] 142 (pg) ?_))
 intro v1 g2 Xg2 hg2 B
 replace BB:=joinB BB B
 refine ta 3 [.func (.func rf) #[] #[]] 130 (pg) ?_
 intro v3 g4 Xg4 hg4 B
 replace BB:=joinB BB B
 replace Xg2:=Xg2.keep B
 refine t 4 (.nilFunc) (gl_nil (ge_then (gc_seq (gc_reg (t 5 (.func (.func 231) #[] #[pg g2,pg g4]) (t 4 (.func (.func 231) #[] #[pg g2,pg g4]) (gl_nil (ge_then (gc_ret (ge_ret (.func (.func 231) #[] #[pg g2,pg g4]) (rs1 4 (by kernel_rfl) (by kernel_rfl)) ?_))))))))))
 exact ⟨_,_,rfl,hg2,Xg2,BB⟩
theorem prun_Account {B:Nat} {w:World} {K:Nat->Prop} {g:Nat} {E:Ents} {n N ba bk l gf:Nat} {lb:Array Value} (h:Sx B w K g E [] n N) (M:Mt B K g E [] n N 1 w (.func (.func gf) #[] lb)) (Xa:Blk w ba [.func (.func gf) #[] lb] 142) (na:¬ K ba):Calls Tryz.prog 231 #[.func (.yield l) #[] #[],pg ba,pg bk] w fun e w'=>(∃ u,e=.returned u)/\Sx B w' K g E [] (n + 1) N/\Chg (· = g) w w':=by
 have A:=h.at
 have DF:=Dfs.nil w.heap.size w
 refine gc_enterM (n:=22) Tryz.func231 rfl (by kernel_rfl) (by kernel_rfl) ?_
 have CG:Chg (· = g) w w:=Chg.refl _ _
 have nXa:¬ K ba:=na
 refine gc_seq (gc_reg ?_)
 have lXa:=Xa.lt
 refine ta 3 [.func (.yield l) #[] #[]] 336 (pg) ?_
 intro v1 g2 Xg2 hg2 B
 obtain ⟨zg2,nXg2,A⟩:=A.al hg2 B
 replace DF:=DF.keep B
 replace Xa:=Xa.keep B
 replace M:=M.keep B
 replace CG:=chgB CG B
 refine gl_nil (ge_then (gc_seq (gc_reg (tl 8 (.func (.func gf) #[] lb) Xa 0 (gl_nil (ge_then (gc_block (gc_mt M (A.lt A.sx.sa.top) ?_))))))))
 intro D3 v4 hD3 kD3 S C
 have hC:=C.mono (F':=K) (fun y _ e=>by have e':y=g:=e; rw [e']; exact A.sx.sa.top)
 have hK:∀ b,K b->K b\/v1.heap.size<=b:=fun _ h=>.inl h
 have Cg:=C
 have DF2:=DF.op A.sx.sa hC
 replace DF:=DF.add hD3 A.size DF2 kD3
 clear DF2 hD3 kD3
 clear M
 replace CG:=CG.trans Cg (fun _ _ h=>h)
 clear Cg
 obtain ⟨Xa,nXa⟩:=bk_op Xa nXa hK hC
 obtain ⟨Xg2,nXg2⟩:=bk_op Xg2 nXg2 hK hC
 replace A:=A.op S hK hC
 refine ge_bn (ge_endD (b:=w.heap.size) [D3] DF (by kernel_rfl) ?_)
 intro Vz Rz
 exact ⟨⟨_,rfl⟩,sx_rcd A.sx Rz,chg_rcd CG Rz (Nat.le_refl _)⟩
theorem recs_Account {B:Nat} {w:World} {K:Nat->Prop} {g:Nat} {E:Ents} {n N:Nat} {k m0:Int} {rf:Nat} (h:Sx B w K g E [] n N) (hn:n<=1000000) (hN:N<=1000) (hOf:∀ w,Calls Tryz.prog 163 #[.int .i64 k] w fun e w'=>∃ v,e=.returned (.tuple #[v,.int .i64 0])/\OB w' (w.heap.size <= ·) v [m0]/\Below w.heap.size w w') (h0:E.filter (fun x=>decide ([m0] <+: x.1))=[]):Calls Tryz.prog 75 #[pg g,.int .i64 k,.func (.func rf) #[] #[]] w fun e w'=>∃ gf lb,e=.returned (.func (.func gf) #[] lb)/\Mt B K g E [] n N 1 w' (.func (.func gf) #[] lb)/\Below w.heap.size w w':=by
 have S0:=h
 have BB:=Below.refl w.heap.size w
 refine gc_enter (n:=12) Tryz.func75 rfl ?_
 refine gc_seq (gc_reg (t 6 (.nilFunc) (gl_nil (ge_then (gc_seq (gc_reg (t 7 (pg g) (t 8 (iI k) (tc 9 86 #[pg g,iI k] (laid_mt S0 hn hN hOf h0) ?_)))))))))
 rintro _ v1 ⟨gf,lb,rfl,M,B⟩
 refine ⟨_,rfl,?_⟩
 replace S0:=S0.keep B
 replace BB:=joinB BB B
 refine t 10 (.func (.func rf) #[] #[]) (tc 11 151 #[.func (.func gf) #[] lb,.func (.func rf) #[] #[]] (pmk_Account) ?_)
 rintro _ v2 ⟨ba,bk,rfl,hba,Xa,B⟩
 refine ⟨_,rfl,?_⟩
 have na:¬ K ba:=nk_new S0 hba
 replace S0:=S0.keep B
 replace BB:=joinB BB B
 replace M:=M.keep B
 refine t 6 (.func (.func 231) #[] #[pg ba,pg bk]) (gl_nil (ge_then (gc_ret (ge_ret (.func (.func 231) #[] #[pg ba,pg bk]) (rs1 6 (by kernel_rfl) (by kernel_rfl)) ?_))))
 exact ⟨_,_,rfl,⟨_,_,rfl,enters_of Tryz.func231 (by kernel_rfl) rfl,fun V l hb=>prun_Account (S0.keep hb) (M.keep hb) (Xa.keep hb) na⟩,BB⟩
theorem pmk_Validator {w:World} {gf rf:Nat} {lb:Array Value}:Calls Tryz.prog 243 #[.func (.func gf) #[] lb,.func (.func rf) #[] #[]] w fun e w'=>∃ ba bk,e=.returned (.func (.func 316) #[] #[pg ba,pg bk])/\w.heap.size<=ba/\Blk w' ba [.func (.func gf) #[] lb] 142/\Below w.heap.size w w':=by
 have BB:=Below.refl w.heap.size w
 refine gc_enter (n:=6) Tryz.func243 rfl ?_
 refine gc_seq (gc_reg (ta 2 [.func (.func gf) #[] lb] 142 (pg) ?_))
 intro v1 g2 Xg2 hg2 B
 replace BB:=joinB BB B
 refine ta 3 [.func (.func rf) #[] #[]] 210 (pg) ?_
 intro v3 g4 Xg4 hg4 B
 replace BB:=joinB BB B
 replace Xg2:=Xg2.keep B
 refine t 4 (.nilFunc) (gl_nil (ge_then (gc_seq (gc_reg (t 5 (.func (.func 316) #[] #[pg g2,pg g4]) (t 4 (.func (.func 316) #[] #[pg g2,pg g4]) (gl_nil (ge_then (gc_ret (ge_ret (.func (.func 316) #[] #[pg g2,pg g4]) (rs1 4 (by kernel_rfl) (by kernel_rfl)) ?_))))))))))
 exact ⟨_,_,rfl,hg2,Xg2,BB⟩
theorem prun_Validator {B:Nat} {w:World} {K:Nat->Prop} {g:Nat} {E:Ents} {n N ba bk l gf:Nat} {lb:Array Value} (h:Sx B w K g E [] n N) (M:Mt B K g E [] n N 1 w (.func (.func gf) #[] lb)) (Xa:Blk w ba [.func (.func gf) #[] lb] 142) (na:¬ K ba):Calls Tryz.prog 316 #[.func (.yield l) #[] #[],pg ba,pg bk] w fun e w'=>(∃ u,e=.returned u)/\Sx B w' K g E [] (n + 1) N/\Chg (· = g) w w':=by
 have A:=h.at
 have DF:=Dfs.nil w.heap.size w
 refine gc_enterM (n:=22) Tryz.func316 rfl (by kernel_rfl) (by kernel_rfl) ?_
 have CG:Chg (· = g) w w:=Chg.refl _ _
 have nXa:¬ K ba:=na
 refine gc_seq (gc_reg ?_)
 have lXa:=Xa.lt
 refine ta 3 [.func (.yield l) #[] #[]] 389 (pg) ?_
 intro v1 g2 Xg2 hg2 B
 obtain ⟨zg2,nXg2,A⟩:=A.al hg2 B
 replace DF:=DF.keep B
 replace Xa:=Xa.keep B
 replace M:=M.keep B
 replace CG:=chgB CG B
 refine gl_nil (ge_then (gc_seq (gc_reg (tl 8 (.func (.func gf) #[] lb) Xa 0 (gl_nil (ge_then (gc_block (gc_mt M (A.lt A.sx.sa.top) ?_))))))))
 intro D3 v4 hD3 kD3 S C
 have hC:=C.mono (F':=K) (fun y _ e=>by have e':y=g:=e; rw [e']; exact A.sx.sa.top)
 have hK:∀ b,K b->K b\/v1.heap.size<=b:=fun _ h=>.inl h
 have Cg:=C
 have DF2:=DF.op A.sx.sa hC
 replace DF:=DF.add hD3 A.size DF2 kD3
 clear DF2 hD3 kD3
 clear M
 replace CG:=CG.trans Cg (fun _ _ h=>h)
 clear Cg
 obtain ⟨Xa,nXa⟩:=bk_op Xa nXa hK hC
 obtain ⟨Xg2,nXg2⟩:=bk_op Xg2 nXg2 hK hC
 replace A:=A.op S hK hC
 refine ge_bn (ge_endD (b:=w.heap.size) [D3] DF (by kernel_rfl) ?_)
 intro Vz Rz
 exact ⟨⟨_,rfl⟩,sx_rcd A.sx Rz,chg_rcd CG Rz (Nat.le_refl _)⟩
theorem recs_Validator {B:Nat} {w:World} {K:Nat->Prop} {g:Nat} {E:Ents} {n N:Nat} {k m0:Int} {rf:Nat} (h:Sx B w K g E [] n N) (hn:n<=1000000) (hN:N<=1000) (hOf:∀ w,Calls Tryz.prog 163 #[.int .i64 k] w fun e w'=>∃ v,e=.returned (.tuple #[v,.int .i64 0])/\OB w' (w.heap.size <= ·) v [m0]/\Below w.heap.size w w') (h0:E.filter (fun x=>decide ([m0] <+: x.1))=[]):Calls Tryz.prog 159 #[pg g,.int .i64 k,.func (.func rf) #[] #[]] w fun e w'=>∃ gf lb,e=.returned (.func (.func gf) #[] lb)/\Mt B K g E [] n N 1 w' (.func (.func gf) #[] lb)/\Below w.heap.size w w':=by
 have S0:=h
 have BB:=Below.refl w.heap.size w
 refine gc_enter (n:=12) Tryz.func159 rfl ?_
 refine gc_seq (gc_reg (t 6 (.nilFunc) (gl_nil (ge_then (gc_seq (gc_reg (t 7 (pg g) (t 8 (iI k) (tc 9 86 #[pg g,iI k] (laid_mt S0 hn hN hOf h0) ?_)))))))))
 rintro _ v1 ⟨gf,lb,rfl,M,B⟩
 refine ⟨_,rfl,?_⟩
 replace S0:=S0.keep B
 replace BB:=joinB BB B
 refine t 10 (.func (.func rf) #[] #[]) (tc 11 243 #[.func (.func gf) #[] lb,.func (.func rf) #[] #[]] (pmk_Validator) ?_)
 rintro _ v2 ⟨ba,bk,rfl,hba,Xa,B⟩
 refine ⟨_,rfl,?_⟩
 have na:¬ K ba:=nk_new S0 hba
 replace S0:=S0.keep B
 replace BB:=joinB BB B
 replace M:=M.keep B
 refine t 6 (.func (.func 316) #[] #[pg ba,pg bk]) (gl_nil (ge_then (gc_ret (ge_ret (.func (.func 316) #[] #[pg ba,pg bk]) (rs1 6 (by kernel_rfl) (by kernel_rfl)) ?_))))
 exact ⟨_,_,rfl,⟨_,_,rfl,enters_of Tryz.func316 (by kernel_rfl) rfl,fun V l hb=>prun_Validator (S0.keep hb) (M.keep hb) (Xa.keep hb) na⟩,BB⟩
theorem pmk_Delegation {w:World} {gf rf:Nat} {lb:Array Value}:Calls Tryz.prog 246 #[.func (.func gf) #[] lb,.func (.func rf) #[] #[]] w fun e w'=>∃ ba bk,e=.returned (.func (.func 320) #[] #[pg ba,pg bk])/\w.heap.size<=ba/\Blk w' ba [.func (.func gf) #[] lb] 142/\Below w.heap.size w w':=by
 have BB:=Below.refl w.heap.size w
 refine gc_enter (n:=6) Tryz.func246 rfl ?_
 refine gc_seq (gc_reg (ta 2 [.func (.func gf) #[] lb] 142 (pg) ?_))
 intro v1 g2 Xg2 hg2 B
 replace BB:=joinB BB B
 refine ta 3 [.func (.func rf) #[] #[]] 214 (pg) ?_
 intro v3 g4 Xg4 hg4 B
 replace BB:=joinB BB B
 replace Xg2:=Xg2.keep B
 refine t 4 (.nilFunc) (gl_nil (ge_then (gc_seq (gc_reg (t 5 (.func (.func 320) #[] #[pg g2,pg g4]) (t 4 (.func (.func 320) #[] #[pg g2,pg g4]) (gl_nil (ge_then (gc_ret (ge_ret (.func (.func 320) #[] #[pg g2,pg g4]) (rs1 4 (by kernel_rfl) (by kernel_rfl)) ?_))))))))))
 exact ⟨_,_,rfl,hg2,Xg2,BB⟩
theorem prun_Delegation {B:Nat} {w:World} {K:Nat->Prop} {g:Nat} {E:Ents} {n N ba bk l gf:Nat} {lb:Array Value} (h:Sx B w K g E [] n N) (M:Mt B K g E [] n N 1 w (.func (.func gf) #[] lb)) (Xa:Blk w ba [.func (.func gf) #[] lb] 142) (na:¬ K ba):Calls Tryz.prog 320 #[.func (.yield l) #[] #[],pg ba,pg bk] w fun e w'=>(∃ u,e=.returned u)/\Sx B w' K g E [] (n + 1) N/\Chg (· = g) w w':=by
 have A:=h.at
 have DF:=Dfs.nil w.heap.size w
 refine gc_enterM (n:=22) Tryz.func320 rfl (by kernel_rfl) (by kernel_rfl) ?_
 have CG:Chg (· = g) w w:=Chg.refl _ _
 have nXa:¬ K ba:=na
 refine gc_seq (gc_reg ?_)
 have lXa:=Xa.lt
 refine ta 3 [.func (.yield l) #[] #[]] 393 (pg) ?_
 intro v1 g2 Xg2 hg2 B
 obtain ⟨zg2,nXg2,A⟩:=A.al hg2 B
 replace DF:=DF.keep B
 replace Xa:=Xa.keep B
 replace M:=M.keep B
 replace CG:=chgB CG B
 refine gl_nil (ge_then (gc_seq (gc_reg (tl 8 (.func (.func gf) #[] lb) Xa 0 (gl_nil (ge_then (gc_block (gc_mt M (A.lt A.sx.sa.top) ?_))))))))
 intro D3 v4 hD3 kD3 S C
 have hC:=C.mono (F':=K) (fun y _ e=>by have e':y=g:=e; rw [e']; exact A.sx.sa.top)
 have hK:∀ b,K b->K b\/v1.heap.size<=b:=fun _ h=>.inl h
 have Cg:=C
 have DF2:=DF.op A.sx.sa hC
 replace DF:=DF.add hD3 A.size DF2 kD3
 clear DF2 hD3 kD3
 clear M
 replace CG:=CG.trans Cg (fun _ _ h=>h)
 clear Cg
 obtain ⟨Xa,nXa⟩:=bk_op Xa nXa hK hC
 obtain ⟨Xg2,nXg2⟩:=bk_op Xg2 nXg2 hK hC
 replace A:=A.op S hK hC
 refine ge_bn (ge_endD (b:=w.heap.size) [D3] DF (by kernel_rfl) ?_)
 intro Vz Rz
 exact ⟨⟨_,rfl⟩,sx_rcd A.sx Rz,chg_rcd CG Rz (Nat.le_refl _)⟩
theorem recs_Delegation {B:Nat} {w:World} {K:Nat->Prop} {g:Nat} {E:Ents} {n N:Nat} {k m0:Int} {rf:Nat} (h:Sx B w K g E [] n N) (hn:n<=1000000) (hN:N<=1000) (hOf:∀ w,Calls Tryz.prog 163 #[.int .i64 k] w fun e w'=>∃ v,e=.returned (.tuple #[v,.int .i64 0])/\OB w' (w.heap.size <= ·) v [m0]/\Below w.heap.size w w') (h0:E.filter (fun x=>decide ([m0] <+: x.1))=[]):Calls Tryz.prog 162 #[pg g,.int .i64 k,.func (.func rf) #[] #[]] w fun e w'=>∃ gf lb,e=.returned (.func (.func gf) #[] lb)/\Mt B K g E [] n N 1 w' (.func (.func gf) #[] lb)/\Below w.heap.size w w':=by
 have S0:=h
 have BB:=Below.refl w.heap.size w
 refine gc_enter (n:=12) Tryz.func162 rfl ?_
 refine gc_seq (gc_reg (t 6 (.nilFunc) (gl_nil (ge_then (gc_seq (gc_reg (t 7 (pg g) (t 8 (iI k) (tc 9 86 #[pg g,iI k] (laid_mt S0 hn hN hOf h0) ?_)))))))))
 rintro _ v1 ⟨gf,lb,rfl,M,B⟩
 refine ⟨_,rfl,?_⟩
 replace S0:=S0.keep B
 replace BB:=joinB BB B
 refine t 10 (.func (.func rf) #[] #[]) (tc 11 246 #[.func (.func gf) #[] lb,.func (.func rf) #[] #[]] (pmk_Delegation) ?_)
 rintro _ v2 ⟨ba,bk,rfl,hba,Xa,B⟩
 refine ⟨_,rfl,?_⟩
 have na:¬ K ba:=nk_new S0 hba
 replace S0:=S0.keep B
 replace BB:=joinB BB B
 replace M:=M.keep B
 refine t 6 (.func (.func 320) #[] #[pg ba,pg bk]) (gl_nil (ge_then (gc_ret (ge_ret (.func (.func 320) #[] #[pg ba,pg bk]) (rs1 6 (by kernel_rfl) (by kernel_rfl)) ?_))))
 exact ⟨_,_,rfl,⟨_,_,rfl,enters_of Tryz.func320 (by kernel_rfl) rfl,fun V l hb=>prun_Delegation (S0.keep hb) (M.keep hb) (Xa.keep hb) na⟩,BB⟩
theorem pmk_Cut {w:World} {gf rf:Nat} {lb:Array Value}:Calls Tryz.prog 174 #[.func (.func gf) #[] lb,.func (.func rf) #[] #[]] w fun e w'=>∃ ba bk,e=.returned (.func (.func 253) #[] #[pg ba,pg bk])/\w.heap.size<=ba/\Blk w' ba [.func (.func gf) #[] lb] 142/\Below w.heap.size w w':=by
 have BB:=Below.refl w.heap.size w
 refine gc_enter (n:=6) Tryz.func174 rfl ?_
 refine gc_seq (gc_reg (ta 2 [.func (.func gf) #[] lb] 142 (pg) ?_))
 intro v1 g2 Xg2 hg2 B
 replace BB:=joinB BB B
 refine ta 3 [.func (.func rf) #[] #[]] 152 (pg) ?_
 intro v3 g4 Xg4 hg4 B
 replace BB:=joinB BB B
 replace Xg2:=Xg2.keep B
 refine t 4 (.nilFunc) (gl_nil (ge_then (gc_seq (gc_reg (t 5 (.func (.func 253) #[] #[pg g2,pg g4]) (t 4 (.func (.func 253) #[] #[pg g2,pg g4]) (gl_nil (ge_then (gc_ret (ge_ret (.func (.func 253) #[] #[pg g2,pg g4]) (rs1 4 (by kernel_rfl) (by kernel_rfl)) ?_))))))))))
 exact ⟨_,_,rfl,hg2,Xg2,BB⟩
theorem prun_Cut {B:Nat} {w:World} {K:Nat->Prop} {g:Nat} {E:Ents} {n N ba bk l gf:Nat} {lb:Array Value} (h:Sx B w K g E [] n N) (M:Mt B K g E [] n N 1 w (.func (.func gf) #[] lb)) (Xa:Blk w ba [.func (.func gf) #[] lb] 142) (na:¬ K ba):Calls Tryz.prog 253 #[.func (.yield l) #[] #[],pg ba,pg bk] w fun e w'=>(∃ u,e=.returned u)/\Sx B w' K g E [] (n + 1) N/\Chg (· = g) w w':=by
 have A:=h.at
 have DF:=Dfs.nil w.heap.size w
 refine gc_enterM (n:=22) Tryz.func253 rfl (by kernel_rfl) (by kernel_rfl) ?_
 have CG:Chg (· = g) w w:=Chg.refl _ _
 have nXa:¬ K ba:=na
 refine gc_seq (gc_reg ?_)
 have lXa:=Xa.lt
 refine ta 3 [.func (.yield l) #[] #[]] 356 (pg) ?_
 intro v1 g2 Xg2 hg2 B
 obtain ⟨zg2,nXg2,A⟩:=A.al hg2 B
 replace DF:=DF.keep B
 replace Xa:=Xa.keep B
 replace M:=M.keep B
 replace CG:=chgB CG B
 refine gl_nil (ge_then (gc_seq (gc_reg (tl 8 (.func (.func gf) #[] lb) Xa 0 (gl_nil (ge_then (gc_block (gc_mt M (A.lt A.sx.sa.top) ?_))))))))
 intro D3 v4 hD3 kD3 S C
 have hC:=C.mono (F':=K) (fun y _ e=>by have e':y=g:=e; rw [e']; exact A.sx.sa.top)
 have hK:∀ b,K b->K b\/v1.heap.size<=b:=fun _ h=>.inl h
 have Cg:=C
 have DF2:=DF.op A.sx.sa hC
 replace DF:=DF.add hD3 A.size DF2 kD3
 clear DF2 hD3 kD3
 clear M
 replace CG:=CG.trans Cg (fun _ _ h=>h)
 clear Cg
 obtain ⟨Xa,nXa⟩:=bk_op Xa nXa hK hC
 obtain ⟨Xg2,nXg2⟩:=bk_op Xg2 nXg2 hK hC
 replace A:=A.op S hK hC
 refine ge_bn (ge_endD (b:=w.heap.size) [D3] DF (by kernel_rfl) ?_)
 intro Vz Rz
 exact ⟨⟨_,rfl⟩,sx_rcd A.sx Rz,chg_rcd CG Rz (Nat.le_refl _)⟩
theorem recs_Cut {B:Nat} {w:World} {K:Nat->Prop} {g:Nat} {E:Ents} {n N:Nat} {k m0:Int} {rf:Nat} (h:Sx B w K g E [] n N) (hn:n<=1000000) (hN:N<=1000) (hOf:∀ w,Calls Tryz.prog 163 #[.int .i64 k] w fun e w'=>∃ v,e=.returned (.tuple #[v,.int .i64 0])/\OB w' (w.heap.size <= ·) v [m0]/\Below w.heap.size w w') (h0:E.filter (fun x=>decide ([m0] <+: x.1))=[]):Calls Tryz.prog 92 #[pg g,.int .i64 k,.func (.func rf) #[] #[]] w fun e w'=>∃ gf lb,e=.returned (.func (.func gf) #[] lb)/\Mt B K g E [] n N 1 w' (.func (.func gf) #[] lb)/\Below w.heap.size w w':=by
 have S0:=h
 have BB:=Below.refl w.heap.size w
 refine gc_enter (n:=12) Tryz.func92 rfl ?_
 refine gc_seq (gc_reg (t 6 (.nilFunc) (gl_nil (ge_then (gc_seq (gc_reg (t 7 (pg g) (t 8 (iI k) (tc 9 86 #[pg g,iI k] (laid_mt S0 hn hN hOf h0) ?_)))))))))
 rintro _ v1 ⟨gf,lb,rfl,M,B⟩
 refine ⟨_,rfl,?_⟩
 replace S0:=S0.keep B
 replace BB:=joinB BB B
 refine t 10 (.func (.func rf) #[] #[]) (tc 11 174 #[.func (.func gf) #[] lb,.func (.func rf) #[] #[]] (pmk_Cut) ?_)
 rintro _ v2 ⟨ba,bk,rfl,hba,Xa,B⟩
 refine ⟨_,rfl,?_⟩
 have na:¬ K ba:=nk_new S0 hba
 replace S0:=S0.keep B
 replace BB:=joinB BB B
 replace M:=M.keep B
 refine t 6 (.func (.func 253) #[] #[pg ba,pg bk]) (gl_nil (ge_then (gc_ret (ge_ret (.func (.func 253) #[] #[pg ba,pg bk]) (rs1 6 (by kernel_rfl) (by kernel_rfl)) ?_))))
 exact ⟨_,_,rfl,⟨_,_,rfl,enters_of Tryz.func253 (by kernel_rfl) rfl,fun V l hb=>prun_Cut (S0.keep hb) (M.keep hb) (Xa.keep hb) na⟩,BB⟩
theorem pmk_Unbonding {w:World} {gf rf:Nat} {lb:Array Value}:Calls Tryz.prog 184 #[.func (.func gf) #[] lb,.func (.func rf) #[] #[]] w fun e w'=>∃ ba bk,e=.returned (.func (.func 265) #[] #[pg ba,pg bk])/\w.heap.size<=ba/\Blk w' ba [.func (.func gf) #[] lb] 142/\Below w.heap.size w w':=by
 have BB:=Below.refl w.heap.size w
 refine gc_enter (n:=6) Tryz.func184 rfl ?_
 refine gc_seq (gc_reg (ta 2 [.func (.func gf) #[] lb] 142 (pg) ?_))
 intro v1 g2 Xg2 hg2 B
 replace BB:=joinB BB B
 refine ta 3 [.func (.func rf) #[] #[]] 166 (pg) ?_
 intro v3 g4 Xg4 hg4 B
 replace BB:=joinB BB B
 replace Xg2:=Xg2.keep B
 refine t 4 (.nilFunc) (gl_nil (ge_then (gc_seq (gc_reg (t 5 (.func (.func 265) #[] #[pg g2,pg g4]) (t 4 (.func (.func 265) #[] #[pg g2,pg g4]) (gl_nil (ge_then (gc_ret (ge_ret (.func (.func 265) #[] #[pg g2,pg g4]) (rs1 4 (by kernel_rfl) (by kernel_rfl)) ?_))))))))))
 exact ⟨_,_,rfl,hg2,Xg2,BB⟩
theorem prun_Unbonding {B:Nat} {w:World} {K:Nat->Prop} {g:Nat} {E:Ents} {n N ba bk l gf:Nat} {lb:Array Value} (h:Sx B w K g E [] n N) (M:Mt B K g E [] n N 1 w (.func (.func gf) #[] lb)) (Xa:Blk w ba [.func (.func gf) #[] lb] 142) (na:¬ K ba):Calls Tryz.prog 265 #[.func (.yield l) #[] #[],pg ba,pg bk] w fun e w'=>(∃ u,e=.returned u)/\Sx B w' K g E [] (n + 1) N/\Chg (· = g) w w':=by
 have A:=h.at
 have DF:=Dfs.nil w.heap.size w
 refine gc_enterM (n:=22) Tryz.func265 rfl (by kernel_rfl) (by kernel_rfl) ?_
 have CG:Chg (· = g) w w:=Chg.refl _ _
 have nXa:¬ K ba:=na
 refine gc_seq (gc_reg ?_)
 have lXa:=Xa.lt
 refine ta 3 [.func (.yield l) #[] #[]] 367 (pg) ?_
 intro v1 g2 Xg2 hg2 B
 obtain ⟨zg2,nXg2,A⟩:=A.al hg2 B
 replace DF:=DF.keep B
 replace Xa:=Xa.keep B
 replace M:=M.keep B
 replace CG:=chgB CG B
 refine gl_nil (ge_then (gc_seq (gc_reg (tl 8 (.func (.func gf) #[] lb) Xa 0 (gl_nil (ge_then (gc_block (gc_mt M (A.lt A.sx.sa.top) ?_))))))))
 intro D3 v4 hD3 kD3 S C
 have hC:=C.mono (F':=K) (fun y _ e=>by have e':y=g:=e; rw [e']; exact A.sx.sa.top)
 have hK:∀ b,K b->K b\/v1.heap.size<=b:=fun _ h=>.inl h
 have Cg:=C
 have DF2:=DF.op A.sx.sa hC
 replace DF:=DF.add hD3 A.size DF2 kD3
 clear DF2 hD3 kD3
 clear M
 replace CG:=CG.trans Cg (fun _ _ h=>h)
 clear Cg
 obtain ⟨Xa,nXa⟩:=bk_op Xa nXa hK hC
 obtain ⟨Xg2,nXg2⟩:=bk_op Xg2 nXg2 hK hC
 replace A:=A.op S hK hC
 refine ge_bn (ge_endD (b:=w.heap.size) [D3] DF (by kernel_rfl) ?_)
 intro Vz Rz
 exact ⟨⟨_,rfl⟩,sx_rcd A.sx Rz,chg_rcd CG Rz (Nat.le_refl _)⟩
theorem recs_Unbonding {B:Nat} {w:World} {K:Nat->Prop} {g:Nat} {E:Ents} {n N:Nat} {k m0:Int} {rf:Nat} (h:Sx B w K g E [] n N) (hn:n<=1000000) (hN:N<=1000) (hOf:∀ w,Calls Tryz.prog 163 #[.int .i64 k] w fun e w'=>∃ v,e=.returned (.tuple #[v,.int .i64 0])/\OB w' (w.heap.size <= ·) v [m0]/\Below w.heap.size w w') (h0:E.filter (fun x=>decide ([m0] <+: x.1))=[]):Calls Tryz.prog 99 #[pg g,.int .i64 k,.func (.func rf) #[] #[]] w fun e w'=>∃ gf lb,e=.returned (.func (.func gf) #[] lb)/\Mt B K g E [] n N 1 w' (.func (.func gf) #[] lb)/\Below w.heap.size w w':=by
 have S0:=h
 have BB:=Below.refl w.heap.size w
 refine gc_enter (n:=12) Tryz.func99 rfl ?_
 refine gc_seq (gc_reg (t 6 (.nilFunc) (gl_nil (ge_then (gc_seq (gc_reg (t 7 (pg g) (t 8 (iI k) (tc 9 86 #[pg g,iI k] (laid_mt S0 hn hN hOf h0) ?_)))))))))
 rintro _ v1 ⟨gf,lb,rfl,M,B⟩
 refine ⟨_,rfl,?_⟩
 replace S0:=S0.keep B
 replace BB:=joinB BB B
 refine t 10 (.func (.func rf) #[] #[]) (tc 11 184 #[.func (.func gf) #[] lb,.func (.func rf) #[] #[]] (pmk_Unbonding) ?_)
 rintro _ v2 ⟨ba,bk,rfl,hba,Xa,B⟩
 refine ⟨_,rfl,?_⟩
 have na:¬ K ba:=nk_new S0 hba
 replace S0:=S0.keep B
 replace BB:=joinB BB B
 replace M:=M.keep B
 refine t 6 (.func (.func 265) #[] #[pg ba,pg bk]) (gl_nil (ge_then (gc_ret (ge_ret (.func (.func 265) #[] #[pg ba,pg bk]) (rs1 6 (by kernel_rfl) (by kernel_rfl)) ?_))))
 exact ⟨_,_,rfl,⟨_,_,rfl,enters_of Tryz.func265 (by kernel_rfl) rfl,fun V l hb=>prun_Unbonding (S0.keep hb) (M.keep hb) (Xa.keep hb) na⟩,BB⟩
theorem pmk_Move {w:World} {gf rf:Nat} {lb:Array Value}:Calls Tryz.prog 273 #[.func (.func gf) #[] lb,.func (.func rf) #[] #[]] w fun e w'=>∃ ba bk,e=.returned (.func (.func 333) #[] #[pg ba,pg bk])/\w.heap.size<=ba/\Blk w' ba [.func (.func gf) #[] lb] 142/\Below w.heap.size w w':=by
 have BB:=Below.refl w.heap.size w
 refine gc_enter (n:=6) Tryz.func273 rfl ?_
 refine gc_seq (gc_reg (ta 2 [.func (.func gf) #[] lb] 142 (pg) ?_))
 intro v1 g2 Xg2 hg2 B
 replace BB:=joinB BB B
 refine ta 3 [.func (.func rf) #[] #[]] 226 (pg) ?_
 intro v3 g4 Xg4 hg4 B
 replace BB:=joinB BB B
 replace Xg2:=Xg2.keep B
 refine t 4 (.nilFunc) (gl_nil (ge_then (gc_seq (gc_reg (t 5 (.func (.func 333) #[] #[pg g2,pg g4]) (t 4 (.func (.func 333) #[] #[pg g2,pg g4]) (gl_nil (ge_then (gc_ret (ge_ret (.func (.func 333) #[] #[pg g2,pg g4]) (rs1 4 (by kernel_rfl) (by kernel_rfl)) ?_))))))))))
 exact ⟨_,_,rfl,hg2,Xg2,BB⟩
theorem prun_Move {B:Nat} {w:World} {K:Nat->Prop} {g:Nat} {E:Ents} {n N ba bk l gf:Nat} {lb:Array Value} (h:Sx B w K g E [] n N) (M:Mt B K g E [] n N 1 w (.func (.func gf) #[] lb)) (Xa:Blk w ba [.func (.func gf) #[] lb] 142) (na:¬ K ba):Calls Tryz.prog 333 #[.func (.yield l) #[] #[],pg ba,pg bk] w fun e w'=>(∃ u,e=.returned u)/\Sx B w' K g E [] (n + 1) N/\Chg (· = g) w w':=by
 have A:=h.at
 have DF:=Dfs.nil w.heap.size w
 refine gc_enterM (n:=22) Tryz.func333 rfl (by kernel_rfl) (by kernel_rfl) ?_
 have CG:Chg (· = g) w w:=Chg.refl _ _
 have nXa:¬ K ba:=na
 refine gc_seq (gc_reg ?_)
 have lXa:=Xa.lt
 refine ta 3 [.func (.yield l) #[] #[]] 409 (pg) ?_
 intro v1 g2 Xg2 hg2 B
 obtain ⟨zg2,nXg2,A⟩:=A.al hg2 B
 replace DF:=DF.keep B
 replace Xa:=Xa.keep B
 replace M:=M.keep B
 replace CG:=chgB CG B
 refine gl_nil (ge_then (gc_seq (gc_reg (tl 8 (.func (.func gf) #[] lb) Xa 0 (gl_nil (ge_then (gc_block (gc_mt M (A.lt A.sx.sa.top) ?_))))))))
 intro D3 v4 hD3 kD3 S C
 have hC:=C.mono (F':=K) (fun y _ e=>by have e':y=g:=e; rw [e']; exact A.sx.sa.top)
 have hK:∀ b,K b->K b\/v1.heap.size<=b:=fun _ h=>.inl h
 have Cg:=C
 have DF2:=DF.op A.sx.sa hC
 replace DF:=DF.add hD3 A.size DF2 kD3
 clear DF2 hD3 kD3
 clear M
 replace CG:=CG.trans Cg (fun _ _ h=>h)
 clear Cg
 obtain ⟨Xa,nXa⟩:=bk_op Xa nXa hK hC
 obtain ⟨Xg2,nXg2⟩:=bk_op Xg2 nXg2 hK hC
 replace A:=A.op S hK hC
 refine ge_bn (ge_endD (b:=w.heap.size) [D3] DF (by kernel_rfl) ?_)
 intro Vz Rz
 exact ⟨⟨_,rfl⟩,sx_rcd A.sx Rz,chg_rcd CG Rz (Nat.le_refl _)⟩
theorem recs_Move {B:Nat} {w:World} {K:Nat->Prop} {g:Nat} {E:Ents} {n N:Nat} {k m0:Int} {rf:Nat} (h:Sx B w K g E [] n N) (hn:n<=1000000) (hN:N<=1000) (hOf:∀ w,Calls Tryz.prog 163 #[.int .i64 k] w fun e w'=>∃ v,e=.returned (.tuple #[v,.int .i64 0])/\OB w' (w.heap.size <= ·) v [m0]/\Below w.heap.size w w') (h0:E.filter (fun x=>decide ([m0] <+: x.1))=[]):Calls Tryz.prog 192 #[pg g,.int .i64 k,.func (.func rf) #[] #[]] w fun e w'=>∃ gf lb,e=.returned (.func (.func gf) #[] lb)/\Mt B K g E [] n N 1 w' (.func (.func gf) #[] lb)/\Below w.heap.size w w':=by
 have S0:=h
 have BB:=Below.refl w.heap.size w
 refine gc_enter (n:=12) Tryz.func192 rfl ?_
 refine gc_seq (gc_reg (t 6 (.nilFunc) (gl_nil (ge_then (gc_seq (gc_reg (t 7 (pg g) (t 8 (iI k) (tc 9 86 #[pg g,iI k] (laid_mt S0 hn hN hOf h0) ?_)))))))))
 rintro _ v1 ⟨gf,lb,rfl,M,B⟩
 refine ⟨_,rfl,?_⟩
 replace S0:=S0.keep B
 replace BB:=joinB BB B
 refine t 10 (.func (.func rf) #[] #[]) (tc 11 273 #[.func (.func gf) #[] lb,.func (.func rf) #[] #[]] (pmk_Move) ?_)
 rintro _ v2 ⟨ba,bk,rfl,hba,Xa,B⟩
 refine ⟨_,rfl,?_⟩
 have na:¬ K ba:=nk_new S0 hba
 replace S0:=S0.keep B
 replace BB:=joinB BB B
 replace M:=M.keep B
 refine t 6 (.func (.func 333) #[] #[pg ba,pg bk]) (gl_nil (ge_then (gc_ret (ge_ret (.func (.func 333) #[] #[pg ba,pg bk]) (rs1 6 (by kernel_rfl) (by kernel_rfl)) ?_))))
 exact ⟨_,_,rfl,⟨_,_,rfl,enters_of Tryz.func333 (by kernel_rfl) rfl,fun V l hb=>prun_Move (S0.keep hb) (M.keep hb) (Xa.keep hb) na⟩,BB⟩
theorem pmk_uint64 {w:World} {gf rf:Nat} {lb:Array Value}:Calls Tryz.prog 274 #[.func (.func gf) #[] lb,.func (.func rf) #[] #[]] w fun e w'=>∃ ba bk,e=.returned (.func (.func 334) #[] #[pg ba,pg bk])/\w.heap.size<=ba/\Blk w' ba [.func (.func gf) #[] lb] 142/\Below w.heap.size w w':=by
 have BB:=Below.refl w.heap.size w
 refine gc_enter (n:=6) Tryz.func274 rfl ?_
 refine gc_seq (gc_reg (ta 2 [.func (.func gf) #[] lb] 142 (pg) ?_))
 intro v1 g2 Xg2 hg2 B
 replace BB:=joinB BB B
 refine ta 3 [.func (.func rf) #[] #[]] 221 (pg) ?_
 intro v3 g4 Xg4 hg4 B
 replace BB:=joinB BB B
 replace Xg2:=Xg2.keep B
 refine t 4 (.nilFunc) (gl_nil (ge_then (gc_seq (gc_reg (t 5 (.func (.func 334) #[] #[pg g2,pg g4]) (t 4 (.func (.func 334) #[] #[pg g2,pg g4]) (gl_nil (ge_then (gc_ret (ge_ret (.func (.func 334) #[] #[pg g2,pg g4]) (rs1 4 (by kernel_rfl) (by kernel_rfl)) ?_))))))))))
 exact ⟨_,_,rfl,hg2,Xg2,BB⟩
theorem prun_uint64 {B:Nat} {w:World} {K:Nat->Prop} {g:Nat} {E:Ents} {n N ba bk l gf:Nat} {lb:Array Value} (h:Sx B w K g E [] n N) (M:Mt B K g E [] n N 1 w (.func (.func gf) #[] lb)) (Xa:Blk w ba [.func (.func gf) #[] lb] 142) (na:¬ K ba):Calls Tryz.prog 334 #[.func (.yield l) #[] #[],pg ba,pg bk] w fun e w'=>(∃ u,e=.returned u)/\Sx B w' K g E [] (n + 1) N/\Chg (· = g) w w':=by
 have A:=h.at
 have DF:=Dfs.nil w.heap.size w
 refine gc_enterM (n:=22) Tryz.func334 rfl (by kernel_rfl) (by kernel_rfl) ?_
 have CG:Chg (· = g) w w:=Chg.refl _ _
 have nXa:¬ K ba:=na
 refine gc_seq (gc_reg ?_)
 have lXa:=Xa.lt
 refine ta 3 [.func (.yield l) #[] #[]] 410 (pg) ?_
 intro v1 g2 Xg2 hg2 B
 obtain ⟨zg2,nXg2,A⟩:=A.al hg2 B
 replace DF:=DF.keep B
 replace Xa:=Xa.keep B
 replace M:=M.keep B
 replace CG:=chgB CG B
 refine gl_nil (ge_then (gc_seq (gc_reg (tl 8 (.func (.func gf) #[] lb) Xa 0 (gl_nil (ge_then (gc_block (gc_mt M (A.lt A.sx.sa.top) ?_))))))))
 intro D3 v4 hD3 kD3 S C
 have hC:=C.mono (F':=K) (fun y _ e=>by have e':y=g:=e; rw [e']; exact A.sx.sa.top)
 have hK:∀ b,K b->K b\/v1.heap.size<=b:=fun _ h=>.inl h
 have Cg:=C
 have DF2:=DF.op A.sx.sa hC
 replace DF:=DF.add hD3 A.size DF2 kD3
 clear DF2 hD3 kD3
 clear M
 replace CG:=CG.trans Cg (fun _ _ h=>h)
 clear Cg
 obtain ⟨Xa,nXa⟩:=bk_op Xa nXa hK hC
 obtain ⟨Xg2,nXg2⟩:=bk_op Xg2 nXg2 hK hC
 replace A:=A.op S hK hC
 refine ge_bn (ge_endD (b:=w.heap.size) [D3] DF (by kernel_rfl) ?_)
 intro Vz Rz
 exact ⟨⟨_,rfl⟩,sx_rcd A.sx Rz,chg_rcd CG Rz (Nat.le_refl _)⟩
theorem recs_uint64 {B:Nat} {w:World} {K:Nat->Prop} {g:Nat} {E:Ents} {n N:Nat} {k m0:Int} {rf:Nat} (h:Sx B w K g E [] n N) (hn:n<=1000000) (hN:N<=1000) (hOf:∀ w,Calls Tryz.prog 163 #[.int .i64 k] w fun e w'=>∃ v,e=.returned (.tuple #[v,.int .i64 0])/\OB w' (w.heap.size <= ·) v [m0]/\Below w.heap.size w w') (h0:E.filter (fun x=>decide ([m0] <+: x.1))=[]):Calls Tryz.prog 194 #[pg g,.int .i64 k,.func (.func rf) #[] #[]] w fun e w'=>∃ gf lb,e=.returned (.func (.func gf) #[] lb)/\Mt B K g E [] n N 1 w' (.func (.func gf) #[] lb)/\Below w.heap.size w w':=by
 have S0:=h
 have BB:=Below.refl w.heap.size w
 refine gc_enter (n:=12) Tryz.func194 rfl ?_
 refine gc_seq (gc_reg (t 6 (.nilFunc) (gl_nil (ge_then (gc_seq (gc_reg (t 7 (pg g) (t 8 (iI k) (tc 9 86 #[pg g,iI k] (laid_mt S0 hn hN hOf h0) ?_)))))))))
 rintro _ v1 ⟨gf,lb,rfl,M,B⟩
 refine ⟨_,rfl,?_⟩
 replace S0:=S0.keep B
 replace BB:=joinB BB B
 refine t 10 (.func (.func rf) #[] #[]) (tc 11 274 #[.func (.func gf) #[] lb,.func (.func rf) #[] #[]] (pmk_uint64) ?_)
 rintro _ v2 ⟨ba,bk,rfl,hba,Xa,B⟩
 refine ⟨_,rfl,?_⟩
 have na:¬ K ba:=nk_new S0 hba
 replace S0:=S0.keep B
 replace BB:=joinB BB B
 replace M:=M.keep B
 refine t 6 (.func (.func 334) #[] #[pg ba,pg bk]) (gl_nil (ge_then (gc_ret (ge_ret (.func (.func 334) #[] #[pg ba,pg bk]) (rs1 6 (by kernel_rfl) (by kernel_rfl)) ?_))))
 exact ⟨_,_,rfl,⟨_,_,rfl,enters_of Tryz.func334 (by kernel_rfl) rfl,fun V l hb=>prun_uint64 (S0.keep hb) (M.keep hb) (Xa.keep hb) na⟩,BB⟩
theorem of5 (w:World):Calls Tryz.prog 163 #[.int .i64 5] w fun e w'=>∃ v,e=.returned (.tuple #[v,.int .i64 0])/\OB w' (w.heap.size <= ·) v [118]/\Below w.heap.size w w':=Ky.of_any (k:=5)
theorem of6 (w:World):Calls Tryz.prog 163 #[.int .i64 6] w fun e w'=>∃ v,e=.returned (.tuple #[v,.int .i64 0])/\OB w' (w.heap.size <= ·) v [118]/\Below w.heap.size w w':=Ky.of_any (k:=6)
theorem of7 (w:World):Calls Tryz.prog 163 #[.int .i64 7] w fun e w'=>∃ v,e=.returned (.tuple #[v,.int .i64 0])/\OB w' (w.heap.size <= ·) v [118]/\Below w.heap.size w w':=Ky.of_any (k:=7)
theorem of8 (w:World):Calls Tryz.prog 163 #[.int .i64 8] w fun e w'=>∃ v,e=.returned (.tuple #[v,.int .i64 0])/\OB w' (w.heap.size <= ·) v [118]/\Below w.heap.size w w':=Ky.of_any (k:=8)
theorem of10 (w:World):Calls Tryz.prog 163 #[.int .i64 10] w fun e w'=>∃ v,e=.returned (.tuple #[v,.int .i64 0])/\OB w' (w.heap.size <= ·) v [105]/\Below w.heap.size w w':=Ky.of_any (k:=10)
theorem of12 (w:World):Calls Tryz.prog 163 #[.int .i64 12] w fun e w'=>∃ v,e=.returned (.tuple #[v,.int .i64 0])/\OB w' (w.heap.size <= ·) v [117]/\Below w.heap.size w w':=Ky.of_any (k:=12)
theorem of13 (w:World):Calls Tryz.prog 163 #[.int .i64 13] w fun e w'=>∃ v,e=.returned (.tuple #[v,.int .i64 0])/\OB w' (w.heap.size <= ·) v [114]/\Below w.heap.size w w':=Ky.of_any (k:=13)
theorem of14 (w:World):Calls Tryz.prog 163 #[.int .i64 14] w fun e w'=>∃ v,e=.returned (.tuple #[v,.int .i64 0])/\OB w' (w.heap.size <= ·) v [113]/\Below w.heap.size w w':=Ky.of_any (k:=14)
theorem of15 (w:World):Calls Tryz.prog 163 #[.int .i64 15] w fun e w'=>∃ v,e=.returned (.tuple #[v,.int .i64 0])/\OB w' (w.heap.size <= ·) v [101]/\Below w.heap.size w w':=Ky.of_any (k:=15)
theorem of16 (w:World):Calls Tryz.prog 163 #[.int .i64 16] w fun e w'=>∃ v,e=.returned (.tuple #[v,.int .i64 0])/\OB w' (w.heap.size <= ·) v [110]/\Below w.heap.size w w':=Ky.of_any (k:=16)
theorem of17 (w:World):Calls Tryz.prog 163 #[.int .i64 17] w fun e w'=>∃ v,e=.returned (.tuple #[v,.int .i64 0])/\OB w' (w.heap.size <= ·) v [107]/\Below w.heap.size w w':=Ky.of_any (k:=17)
structure Bare (E:Ents):Prop where
 par:Kv.look E (Ky.mk 1 0 0)=some PV
 chn:Kv.look E (Ky.mk 2 0 0)=some CV
 pool:Kv.look E (Ky.mk 3 0 0)=none
 no:∀ m∈([118,105,98,117,114,113,101,110,107]:List Int),E.filter (fun x=>decide ([m] <+: x.1))=[]
theorem vals_mt {B:Nat} {w:World} {K:Nat->Prop} {g:Nat} {E:Ents} {n N:Nat} (P:Bare E) (h:Sx B w K g E [] n N) (hn:n<=1000000) (hN:N<=1000):Calls Tryz.prog 82 #[pg g] w fun e w'=>∃ gf lb,e=.returned (.func (.func gf) #[] lb)/\Mt B K g E [] n N 1 w' (.func (.func gf) #[] lb)/\Below w.heap.size w w':=by
 have S0:=h
 have BB:=Below.refl w.heap.size w
 refine gc_enter (n:=5) Tryz.func82 rfl ?_
 refine gc_seq (gc_reg (t 2 (.nilFunc) (gl_nil (ge_then (gc_seq (gc_reg (t 3 (pg g) (tc 4 159 #[pg g,iI 5,.func (.func 130) #[] #[]] (recs_Validator S0 hn hN of5 (P.no 118 (by decide))) ?_))))))))
 rintro _ v1 ⟨gf,lb,rfl,M,B⟩
 refine ⟨_,rfl,?_⟩
 replace S0:=S0.keep B
 replace BB:=joinB BB B
 refine t 2 (.func (.func gf) #[] lb) (gl_nil (ge_then (gc_ret (ge_ret (.func (.func gf) #[] lb) (rs1 2 (by kernel_rfl) (by kernel_rfl)) ?_))))
 exact ⟨_,_,rfl,M,BB⟩
end Sd
end
section
namespace Pw
open Go.RowKit Go.Lib Pg Kv Bk Gl
attribute [local go_sem] Oper.semAt_some
theorem und_m:Tryz.prog.underlying 349=some (.map 22 3):=by kernel_rfl
theorem und_u:Tryz.prog.underlying 22=some (.int .u64):=by kernel_rfl
section
variable {w:World} {bm clock:Nat} {es:Array MapEntry} {k:Int}
theorem isk (k:Int):MapKept.IsKey (.int .u64) (.int .u64 k):=by
 simp [MapKept.IsKey]
def wset (w:World) (r:Nat) (o:Obj):World:={ w with heap:=w.heap.setIfInBounds r o }
theorem wset_at {r:Nat} {o o':Obj} (h:w.heap[r]? = some o'):(wset w r o).heap[r]? = some o:=by
 have:=lt_of_block h
 simp [wset,this]
theorem wset_chg (r:Nat) (o:Obj):Chg (· = r) w (wset w r o):=⟨rfl,rfl,rfl,by simp [wset],fun b _ hb=>by
 have hb':¬ (b=r):=hb
 simp only [wset]
 rw [Array.getElem?_setIfInBounds_ne (fun e=>hb' e.symm)]⟩
theorem run_setI {r b d:Nat} {a:Option Nat} {c:Array Nat} {o:Obj} (h:w.heap[r]? = some (.mapIter a b c d)):(setObj r o).run Tryz.prog w=.ok () (wset w r o):=by
 simp only [setObj,Sem.run]
 rw [h]
 rfl
theorem run_getI {r b d:Nat} {a:Option Nat} {c:Array Nat} (h:w.heap[r]? = some (.mapIter a b c d)):(getObj r).run Tryz.prog w=.ok (.mapIter a b c d) w:=by
 simp only [getObj,Sem.run]
 rw [h]
theorem run_nx {r since c0:Nat} {seen:Array Nat} (ty:TypeId) (hr:w.heap[r]? = some (.mapIter (some bm) since seen c0)) (hb:w.heap[bm]? = some (.map es clock)) (hold:∀ x∈es.toList,x.born < since) (hsc:since<=c0) :
  ((leftOf es seen).size=0/\(Instr.next (.pointer (some ⟨r,0,none⟩)) false ty).run Tryz.prog w=.ok (.tuple #[.bool false]) w) \/
  ∃ e∈(leftOf es seen).toList,∃ w1,(Instr.next (.pointer (some ⟨r,0,none⟩)) false ty).run Tryz.prog w=.ok (.tuple #[.bool true,e.key,e.val]) w1/\w1.heap[r]? = some (.mapIter (some bm) since (seen.push e.born) clock)/\Chg (· = r) w w1:=by
 have test:=next_test_false seen es since c0 hold hsc
 have hL:∀ x∈(leftOf es seen).toList,x.born < since:=fun x hx=>hold x (mem_left hx).1
 simp only [Instr.next,Sem.run_bind,run_getI hr,Result.andThen_ok,MapKept.run_getObj_map hb,test,Bool.false_eq_true,if_false]
 change ((leftOf es seen).size=0/\_)\/_
 rw [show (es.filter fun e => !seen.contains e.born)=leftOf es seen from rfl]
 obtain ⟨L,hLe⟩:∃ L,leftOf es seen=L:=⟨_,rfl⟩
 rw [hLe] at hL ⊢
 have old:(L.filter fun x=>decide (x.born < since))=L:=Array.filter_eq_self.2 (fun x hx=>by simpa using hL x (by simpa using hx))
 have new:(L.filter fun x=>decide (x.born >= since))=#[]:=Array.filter_eq_empty_iff.2 (fun x hx=>by have:=hL x (by simpa using hx); simp; omega)
 rw [old,new,Array.append_empty]
 by_cases h0:L.size=0
 ·refine .inl ⟨h0,?_⟩
  obtain rfl:L=#[]:=Array.eq_empty_of_size_eq_zero h0
  simp [choose,Sem.run,Question.forced]
 ·refine .inr ?_
  have ne:L.isEmpty=false:=by simp [Array.isEmpty,h0]
  rw [ne]
  have draw:∃ (j:Nat) (w1:World),j < L.size/\(w1=w\/w1=w.drew)/\(choose (Question.mapNext L.size)).run Tryz.prog w=.ok j w1:=by
   by_cases hf:L.size<=1
   ·exact ⟨0,w,by omega,.inl rfl,by simp [choose,Sem.run,Question.forced,hf]⟩
   ·exact ⟨_,w.drew,Nat.mod_lt _ (by omega),.inr rfl,by
     simp only [choose,Sem.run,Question.forced,decide_eq_true_eq,hf,if_false,Question.cut]
     rfl⟩
  obtain ⟨j,w1,hj,hw,hrun⟩:=draw
  have h1:w1.heap[r]? = some (.mapIter (some bm) since seen c0):=by rcases hw with rfl | rfl<;>exact hr
  refine ⟨L[j],by simp,wset w1 r (.mapIter (some bm) since (seen.push L[j].born) clock),?_,wset_at h1,?_⟩
  ·simp only [Bool.false_eq_true,if_false,Array.empty_append,Array.size_map,hrun,Result.andThen_ok,Array.getElem?_map,Array.getElem?_eq_getElem hj,Option.map_some,Sem.run_bind,run_setI h1,Sem.run_pure]
  ·have c:=wset_chg (w:=w1) r (.mapIter (some bm) since (seen.push L[j].born) clock)
   rcases hw with rfl | rfl
   ·exact c
   ·exact (Chg.of (F:=(· = r)) (Below.refl _ _).drew).trans c (fun _ _ h=>h)
end
section
variable {P:Program} {n:Nat} {ds:List Deferred} {ops:Array Oper} {Q:Exit->Act->World->Prop} {rest:List Oper} {o:Oper} {l:Fr} {w:World}
theorem tmk (d:Nat) (h:∀ w1 g,w1.heap[g]? = some (.map #[] 0)->w.heap.size<=g->Below w.heap.size w w1->GL P n ds ops Q rest ((d,.map (some g)) :: l) w1) (hg:gd ops l o=some true:=by kernel_rfl) (hc:chk n l o (some d)=true:=by kernel_rfl) (hrun:(execOp (evL l) o).run P w=.ok (.value (.map (some w.heap.size))) (w.alloc (.map #[] 0)):=by kernel_rfl):GL P n ds ops Q (o :: rest) l w :=
 tw d _ _ hrun (h _ _ (World.alloc_heap_new w _) (Nat.le_refl _) (below_alloc w _)) hg hc
end
section
variable {n:Nat} {ds:List Deferred} {ops:Array Oper} {Q:Exit->Act->World->Prop} {rest:List Oper} {o:Oper} {l:Fr} {w:World}
theorem trg (d:Nat) {bm clock:Nat} {es:Array MapEntry} (hb:w.heap[bm]? = some (.map es clock)) (h:∀ w1 g,w1.heap[g]? = some (.mapIter (some bm) clock #[] clock)->w.heap.size<=g->Below w.heap.size w w1->GL Tryz.prog n ds ops Q rest ((d,pg g) :: l) w1) (hg:gd ops l o=some true:=by kernel_rfl) (hc:chk n l o (some d)=true:=by kernel_rfl) (ho:∃ x,o.op=.range 349 x/\evL l x=.map (some bm):=by exact ⟨_,rfl,by kernel_rfl⟩):GL Tryz.prog n ds ops Q (o :: rest) l w:=by
 obtain ⟨x,h0,h1⟩:=ho
 refine tw d (pg w.heap.size) _ ?_ (h _ _ (World.alloc_heap_new w _) (Nat.le_refl _) (below_alloc w _)) hg hc
 simp only [execOp,h0,h1,Sem.run_bind,run_range_map w _ _ _ bm es clock und_m hb,Result.andThen_ok,Sem.run_pure]
theorem tnx (d:Nat) {r bm since c0 clock:Nat} {seen:Array Nat} {es:Array MapEntry} (hr:w.heap[r]? = some (.mapIter (some bm) since seen c0)) (hb:w.heap[bm]? = some (.map es clock)) (hold:∀ x∈es.toList,x.born < since) (hsc:since<=c0) (h0:(leftOf es seen).size=0->GL Tryz.prog n ds ops Q rest ((d,.tuple #[.bool false]) :: l) w)
  (h1:∀ e∈(leftOf es seen).toList,∀ w1,w1.heap[r]? = some (.mapIter (some bm) since (seen.push e.born) clock)->Chg (· = r) w w1->GL Tryz.prog n ds ops Q rest ((d,.tuple #[.bool true,e.key,e.val]) :: l) w1) (hg:gd ops l o=some true:=by kernel_rfl) (hc:chk n l o (some d)=true:=by kernel_rfl) (ho:∃ x,o.op=.next x false/\evL l x=.pointer (some ⟨r,0,none⟩):=by exact ⟨_,rfl,by kernel_rfl⟩):GL Tryz.prog n ds ops Q (o :: rest) l w:=by
 obtain ⟨x,k0,k1⟩:=ho
 rcases run_nx o.type hr hb hold hsc with ⟨e0,hu⟩ | ⟨e,he,w1,hu,a1,a2⟩
 ·refine tw d _ _ ?_ (h0 e0) hg hc
  simp only [execOp,k0,k1,Sem.run_bind,hu,Result.andThen_ok,Sem.run_pure]
 ·refine tw d _ _ ?_ (h1 e he w1 a1 a2) hg hc
  simp only [execOp,k0,k1,Sem.run_bind,hu,Result.andThen_ok,Sem.run_pure]
end
end Pw
end
section
namespace Sd
open Go.RowKit Go.Lib Pg Lim Gl Kv Bk Pw
attribute [local go_sem] Oper.semAt_some
set_option linter.unusedSimpArgs false
set_option linter.unusedVariables false
theorem len64_0 {w:World}:Calls Tryz.prog 344 #[.int .u64 0] w fun e w'=>e=.returned (.int .i64 0)/\w'=w:=len64 0 w (by decide) (by decide)
theorem len_0 {w:World}:Calls Tryz.prog 347 #[.int .u64 0] w fun e w'=>e=.returned (.int .i64 0)/\w'=w:=by
 refine gc_enter (n:=8) Tryz.func347 rfl ?_
 refine gc_seq (gc_reg (t 2 (iI 0) (gl_nil (ge_then (gc_seq (gc_no (gc_skip (ge_then (gc_seq (gc_reg (t 6 (iU 0) (tc 7 344 #[iU 0] (len64_0) ?_))))))))))))
 rintro _ v1 ⟨rfl,hw⟩
 refine ⟨_,rfl,?_⟩
 subst hw
 refine t 2 (iI 0) (gl_nil (ge_then (gc_ret (ge_ret (iI 0) (rs1 2 (by kernel_rfl) (by kernel_rfl)) ?_))))
 exact ⟨rfl,rfl⟩
theorem ins_0 {w:World} {ao:Option Addr} {c:Nat}:Calls Tryz.prog 357 #[.slice ao 0 c,.int .i64 0,.int .i64 0] w fun e w'=>e=.returned (.tuple #[])/\w'=w:=by
 refine gc_enter (n:=49) Tryz.func357 rfl ?_
 refine gc_seq (gc_reg (t 8 (iI 0) (t 9 (iI 1) (t 6 (iI 1) (gl_nil (ge_then (gc_block (gc_loop (fun _=>0) (fun (_:Unit)=>[(2,iI 0),(6,iI 1)]) (fun _ w'=>w'=w) () rfl (by kernel_rfl) ?_))))))))
 rintro _ v1 rfl
 refine gc_seq (gc_seq (gc_reg (t 10 (iI 1) (t 11 (iI 0) (t 12 (bF) (gl_nil (ge_then (gc_no (gc_exit (ge_tx (ge_tx (ge_bx (ge_end (.tuple #[]) (rs0 (by kernel_rfl)) ?_)))))))))))))
 exact ⟨rfl,rfl⟩
theorem pdq_0 {w:World} {ao:Option Addr} {c:Nat}:Calls Tryz.prog 346 #[.slice ao 0 c,.int .i64 0,.int .i64 0,.int .i64 0] w fun e w'=>e=.returned (.tuple #[])/\w'=w:=by
 refine gc_enter (n:=134) Tryz.func346 rfl ?_
 refine gc_seq (gc_reg (t 8 (bT) (gl_nil (ge_then (gc_seq (gc_reg (t 9 (bT) (gl_nil (ge_then (gc_block (gc_loop (fun _=>0) (fun (_:Unit)=>[(0,.slice ao 0 c),(1,iI 0),(2,iI 0)]) (fun _ w'=>w'=w) () rfl (by kernel_rfl) ?_)))))))))))
 rintro _ v1 rfl
 refine gc_block (gc_seq (gc_reg (t 19 (iI 0) (t 20 (iI 0) (t 21 (iI 0) (t 10 (iI 0) (gl_nil (ge_then (gc_seq (gc_seq (gc_reg (t 22 (iI 0) (t 23 (bT) (gl_nil (ge_then (gc_yes (gc_seq (gc_reg (t 24 (.slice ao 0 c) (t 25 (iI 0) (t 26 (iI 0) (tc 27 357 #[.slice ao 0 c,iI 0,iI 0] (ins_0) ?_))))))))))))))))))))))
 rintro _ v2 ⟨rfl,hw⟩
 refine ⟨_,rfl,?_⟩
 subst hw
 refine gl_nil (ge_then (gc_ret (ge_tr (ge_br (ge_tr (ge_br (ge_ret (.tuple #[]) (rs0 (by kernel_rfl)) ?_)))))))
 exact ⟨rfl,rfl⟩
theorem sort_0 {w:World} {ao:Option Addr} {c:Nat}:Calls Tryz.prog 322 #[.slice ao 0 c] w fun e w'=>e=.returned (.tuple #[])/\w'=w:=by
 refine gc_enter (n:=11) Tryz.func322 rfl ?_
 refine gc_seq (gc_reg (t 3 (.slice ao 0 c) (t 4 (iI 0) (t 2 (iI 0) (gl_nil (ge_then (gc_reg (t 5 (.slice ao 0 c) (t 6 (iI 0) (t 7 (iI 0) (t 8 (iU 0) (tc 9 347 #[iU 0] (len_0) ?_))))))))))))
 rintro _ v1 ⟨rfl,hw⟩
 refine ⟨_,rfl,?_⟩
 subst hw
 refine tc 10 346 #[.slice ao 0 c,iI 0,iI 0,iI 0] (pdq_0) ?_
 rintro _ v2 ⟨rfl,hw⟩
 refine ⟨_,rfl,?_⟩
 subst hw
 refine gl_nil (ge_end (.tuple #[]) (rs0 (by kernel_rfl)) ?_)
 exact ⟨rfl,rfl⟩
structure MapS (w:World) (g:Nat) (o:Obj):Prop where
 ob:w.heap[g]? = some o
section
variable {w w':World} {g:Nat} {o:Obj}
theorem MapS.lt (h:MapS w g o):g < w.heap.size:=lt_of_block h.ob
theorem MapS.keep (h:MapS w g o) (b:Below w.heap.size w w'):MapS w' g o:=⟨(b.block g h.lt).trans h.ob⟩
theorem MapS.drew (h:MapS w g o):MapS w.drew g o:=⟨h.ob⟩
theorem MapS.cel {F:Nat->Prop} (h:MapS w g o) (ho:∀ cs t m,o≠.cells cs t m) (C:Chg F w w') (hF:∀ b,F b->∃ cs t,Blk w b cs t):MapS w' g o:=⟨(C.same g h.lt (fun hf=>by
 obtain ⟨cs,t,k⟩:=hF g hf
 have:=k.blk.symm.trans h.ob
 cases this
 exact ho _ _ _ rfl)).trans h.ob⟩
theorem MapS.cell {x:Nat} {cs:List Value} {t:TypeId} {es:Array MapEntry} {k:Nat} (h:MapS w g (.map es k)) (X:Blk w x cs t) (C:Chg (· = x) w w'):MapS w' g (.map es k):=h.cel (fun _ _ _ h=>by cases h) C (fun b e=>⟨cs,t,(show b=x from e)▸X⟩)
theorem MapS.op {K D:Nat->Prop} {y n N:Nat} {E:Ents} {W:List Ents} {es:Array MapEntry} {k:Nat} (h:MapS w g (.map es k)) (S:SA w K D y E W n N) (C:Chg K w w'):MapS w' g (.map es k):=h.cel (fun _ _ _ h=>by cases h) C (fun b hb=>(S.kind b hb).imp fun _ h=>h.imp fun _ h=>h.1)
end
theorem only_0 {w:World} {bm:Nat} {d:Int} (M:MapS w bm (.map #[] 0)):Calls Tryz.prog 249 #[.map (some bm),.int .i64 d] w fun e w'=>e=.returned (.slice none 0 0)/\Below w.heap.size w w':=by
 have BB:=Below.refl w.heap.size w
 refine gc_enter (n:=25) Tryz.func249 rfl ?_
 refine gc_seq (gc_reg (t 4 (.slice none 0 0) (gl_nil (ge_then (gc_seq (gc_reg (t 5 (.slice none 0 0) (gl_nil (ge_then (gc_seq (gc_seq (gc_reg (t 8 (.map (some bm)) (trg 9 M.ob ?_))))))))))))))
 intro v1 r hI hr B
 have I:MapS _ r _:=⟨hI⟩
 clear hI
 replace BB:=joinB BB B
 replace M:=M.keep B
 refine gl_nil (ge_then (gc_block (gc_loop (fun _=>0) (fun (_:Unit)=>[(1,iI d),(5,.slice none 0 0),(9,pg r)]) (fun _ w'=>w'=v1) () rfl (by kernel_rfl) ?_)))
 rintro _ v2 rfl
 refine gc_seq (gc_reg (tnx 10 I.ob M.ob (fun x h=>by simp at h) (Nat.le_refl _) ?_ (fun e he=>absurd (mem_left he).1 (by simp))))
 intro h0
 refine t 11 (bF) (gl_nil (ge_then (gc_seq (gc_no (gc_exit (ge_tx (ge_tx (ge_bx (ge_then (gc_seq (gc_reg (t 22 (.slice none 0 0) (tc 23 322 #[.slice none 0 0] (sort_0) ?_)))))))))))))
 rintro _ v3 ⟨rfl,hw⟩
 refine ⟨_,rfl,?_⟩
 subst hw
 refine gl_nil (ge_then (gc_seq (gc_reg (t 24 (.slice none 0 0) (t 4 (.slice none 0 0) (gl_nil (ge_then (gc_ret (ge_ret (.slice none 0 0) (rs1 4 (by kernel_rfl) (by kernel_rfl)) ?_)))))))))
 exact ⟨rfl,BB⟩
theorem turns_0 {w:World} {a a':Option Addr} {c c':Nat}:Calls Tryz.prog 167 #[.slice a 0 c,.slice a' 0 c'] w fun e w'=>e=.returned (.tuple #[.slice none 0 0,.slice none 0 0])/\Below w.heap.size w w':=by
 have BB:=Below.refl w.heap.size w
 refine gc_enter (n:=38) Tryz.func167 rfl ?_
 refine gc_seq (gc_reg (t 4 (.slice none 0 0) (t 5 (.slice none 0 0) (gl_nil (ge_then (gc_seq (gc_reg (tmk 11 ?_))))))))
 intro v1 bm hM hbm B
 replace BB:=joinB BB B
 have M:MapS v1 bm (.map #[] 0):=⟨hM⟩
 clear hM
 refine t 6 (.map (some bm)) (gl_nil (ge_then (gc_seq (gc_seq (gc_reg (t 12 (.slice a 0 c) (t 13 (iI 0) (t 14 (iI 0) (gl_nil (ge_then (gc_block (gc_loop (fun _=>0) (fun (_:Unit)=>[(1,.slice a' 0 c'),(6,.map (some bm)),(13,iI 0),(14,iI 0)]) (fun _ w'=>w'=v1) () rfl (by kernel_rfl) ?_))))))))))))
 rintro _ v2 rfl
 refine gc_seq (gc_reg (t 15 (bF) (gl_nil (ge_then (gc_seq (gc_no (gc_exit (ge_tx (ge_tx (ge_bx (ge_then (gc_seq (gc_seq (gc_reg (t 23 (.slice a' 0 c') (t 24 (iI 0) (t 25 (iI 0) (gl_nil (ge_then (gc_block (gc_loop (fun _=>0) (fun (_:Unit)=>[(6,.map (some bm)),(24,iI 0),(25,iI 0)]) (fun _ w'=>w'=v2) () rfl (by kernel_rfl) ?_)))))))))))))))))))))
 rintro _ v3 rfl
 refine gc_seq (gc_reg (t 26 (bF) (gl_nil (ge_then (gc_seq (gc_no (gc_exit (ge_tx (ge_tx (ge_bx (ge_then (gc_seq (gc_reg (t 34 (.map (some bm)) (tc 35 249 #[.map (some bm),iI 1] (only_0 M) ?_)))))))))))))))
 rintro _ v4 ⟨rfl,B⟩
 refine ⟨_,rfl,?_⟩
 replace BB:=joinB BB B
 replace M:=M.keep B
 refine t 36 (.map (some bm)) (tc 37 249 #[.map (some bm),iI 2] (only_0 M) ?_)
 rintro _ v5 ⟨rfl,B⟩
 refine ⟨_,rfl,?_⟩
 replace BB:=joinB BB B
 replace M:=M.keep B
 refine t 4 (.slice none 0 0) (t 5 (.slice none 0 0) (gl_nil (ge_then (gc_ret (ge_ret (.tuple #[.slice none 0 0,.slice none 0 0]) (rs2 4 5 (by kernel_rfl) (by kernel_rfl) (by kernel_rfl)) ?_)))))
 exact ⟨rfl,BB⟩
end Sd
end
end Go.Proofs.YtopifdikfhffgaaGreat
